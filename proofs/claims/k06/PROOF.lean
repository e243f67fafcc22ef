import PyProof.Rows.All
import Wide.All
import OpenK.AllK
import Wide.FinOn
import HandS.ForMost
import HandS.OwnEq
import HandS.Wide
import HandS.Gcd
import HandS.IsInst
import HandS.Defaults
import HandS.MakeKw
import HandS.ExcBuiltin
import HandS.TryOnly
import HandS.ForExc
import HandS.Zip
import HandS.Codes
import HandS.Evl
import HandS.Conv
import HandS.Walk
import HandS.TupAny
import HandS.Words
import HandS.WordsList
import HandS.ClsMeth
import HandS.FStr
import KE.KCallOwn
import PyProof.Conv_bool
import HandS.StrMore
import PySem.Challenge.RW_pairahead_k06_rule_texts
import HandS.Text
import HandS.More
set_option Elab.async false
set_option linter.all false
set_option maxRecDepth 100000
set_option maxHeartbeats 2000000
namespace PLow
open PySem PySem.W PySem.Calls PyProof.Rows
section
variable {prog : Program} {w : World} {M : Model} {A : Around} {E : Value → Shared → Prop} {s : Shared} {K : Frag} {x C L f : Addr} {h₀ : Heap} {m : Str → Option Value} {ox : Obj} {od : Option Obj} {nm : String}

/-- an int's own slot declines an instance -/
theorem add_declines {a : Int} {t : Tok} {R : PySem.Fin → Shared → Prop} (ho : s.heap.get? x = some ox) (hd : ∀ v, ox.data ≠ .prim v) (h : R (.done (.ret .notImplemented)) s) :
    wpAny (model prog w) A (Builtin.«int.__add__» ⟨[Value.int a t, Value.ref x], []⟩) R E s := by
  obtain ⟨hp, g, d, tk, os⟩ := s
  wp_walk
  split
  · rename_i e
    exact absurd e (hd _)
  · wp_walk
    exact h
theorem sub_declines {a : Int} {t : Tok} {R : PySem.Fin → Shared → Prop} (ho : s.heap.get? x = some ox) (hd : ∀ v, ox.data ≠ .prim v) (h : R (.done (.ret .notImplemented)) s) :
    wpAny (model prog w) A (Builtin.«int.__sub__» ⟨[Value.int a t, Value.ref x], []⟩) R E s := by
  obtain ⟨hp, g, d, tk, os⟩ := s
  wp_walk
  split
  · rename_i e
    exact absurd e (hd _)
  · wp_walk
    exact h
theorem mul_declines {a : Int} {t : Tok} {R : PySem.Fin → Shared → Prop} (ho : s.heap.get? x = some ox) (hd : ∀ v, ox.data ≠ .prim v) (h : R (.done (.ret .notImplemented)) s) :
    wpAny (model prog w) A (Builtin.«int.__mul__» ⟨[Value.int a t, Value.ref x], []⟩) R E s := by
  obtain ⟨hp, g, d, tk, os⟩ := s
  wp_walk
  split
  · rename_i e
    exact absurd e (hd _)
  · wp_walk
    exact h

/-- the left operand's own slot, the right one declines: an int and an instance with the reflected method -/
theorem rbin {op : Operator} {id : String} {a : Int} {t : Tok} {B : Builtin} {Q : Value → Shared → Prop} {g : Addr} (F : Fr h₀ L s.heap m) (X₀ : K.In h₀) (I : InstAt s.heap x ox C od) (hc : selfFirst K C = true)
    (hs : findIn K (.ref C) (PySem.dunder op.info.2) = some (some (.ref g))) (hr : findIn K (.ref C) (dunderR op.info.2) = some (some (.ref f))) (hf : isFn K (.ref f) = true)
    (hfT : fillsNumberSlot (.type "int") op.info.2 = pure true) (hsub : subIn K (.ref C) (.type "int") = some false)
    (slot : Slot "int" (PySem.dunder op.info.2) id) (entry : entryFor table id = some B) (args : argsOk id ⟨[Value.int a t, .ref x], []⟩)
    (dec : ∀ (A : Around) (E : Value → Shared → Prop) (R : PySem.Fin → Shared → Prop), R (.done (.ret .notImplemented)) s → wpAny (model prog w) A (B ⟨[Value.int a t, .ref x], []⟩) R E s)
    (h : wpAny (model prog w) A (call (.ref f) [.ref x, .int a t]) (PySem.W.CmpBack Q) E s) : wpAny (model prog w) A (binaryOp op (.int a t) (.ref x)) Q E s := by
  have X := X₀.keeps F.keep
  obtain ⟨cd, rest, hcd, hm⟩ := ksp_first hc
  rcases hi : op.info with ⟨sym, nm'⟩
  rw [hi] at hs hr hfT slot
  dsimp only at hs hr hfT slot
  have one := ksp_try X I hr hf h
  have L0 : Looks (model prog w) s.heap (typeOf (.int a t)) (.type "int") := Looks.of_pure rfl
  have L1 : Looks (model prog w) s.heap (typeOf (.ref x)) (.ref C) := I.type
  have L3 : Looks (model prog w) s.heap (fillsNumberSlot (.ref C) nm') true := fills_K X hcd hm hs
  have L5 : Looks (model prog w) s.heap (isSubtype (.ref C) (.type "int")) false := looks_subIn X hsub
  have hne : (Value.type "int" == Value.ref C) = false := Bool.eq_false_iff.mpr fun q => by cases beq_iff_eq.mp q
  have hpy : numberSlotInPython (.type "int") nm' = pure false := rfl
  simp only [binaryOp, hi]
  refine wpAny_holding (wpAny_bind ?_)
  unfold binaryOp1
  refine wpAny_bind (L0.here (wpAny_bind (L1.here (wpAny_bind (wpAny_of_eq hfT ?_)))))
  simp only [hne, Bool.false_eq_true, if_false]
  refine wpAny_bind (L3.here ?_)
  simp only [Bool.and_self, if_true]
  refine wpAny_bind (L5.here ?_)
  simp only [Bool.false_eq_true, if_false, pure_bind, Bool.not_false, Bool.and_self, if_true, hpy]
  refine wpAny_bind (wpAny_tryMethod_declines (id := id) (typeIs_int s a t) slot ?_)
  refine GQ.call_here slot (typeIs_int s a t) entry args (dec _ _ _ ?_)
  refine ⟨rfl, ?_⟩
  refine wpAny_bind (wpAny_mono one (fun r s' hr' => ?_) fun _ _ e => e)
  obtain ⟨v, rfl, hq⟩ := hr'
  dsimp only
  exact wpAny_bind (wpAny_rule (wpAny_pure (wpAny_pure hq)))

/-- abs(x) by the own method -/
theorem abs_own {Q : Value → Shared → Prop} (F : Fr h₀ L s.heap m) (X₀ : K.In h₀) (I : InstAt s.heap x ox C od) (hs : findIn K (.ref C) "__abs__" = some (some (.ref f))) (hf : isFn K (.ref f) = true)
    (h : wpAny (model prog w) A.in1 (call (.ref f) [.ref x]) Q E s) : wpAny (model prog w) A (call (.builtin "abs") [.ref x]) Q E s := by
  refine call_function_entry kind_abs plain_abs entry_abs (args_abs _) ?_
  unfold Builtin.«abs»
  refine wpAny_bind (m := oneArg "abs" _) (wpAny_pure ?_)
  refine wpAny_bind (special_fn (X₀.keeps F.keep) I hs (beq_iff_eq.mp hf) ?_)
  exact wpAny_mono h (fun v s' q => wpAny_pure ⟨v, rfl, q⟩) fun _ _ z => z
end
end PLow

namespace L2
open PySem PySem.Spec PyProof.Rows
section
variable {X : Cx} {CX : CXT} {k : Nat} {C f g : Addr} {fd : FuncData} {ps : List Str} {sp : Sp} {E : XK} {op : Operator}
theorem cmpBack_of {pins : List (Addr × Obj)} {σ : St} {Q : VK} {u : Value} {s' : Shared} (h : EP X pins σ Q u s') : PySem.W.CmpBack (EP X pins σ Q) u s' := by
  obtain ⟨v, H', I, r, q⟩ := id h
  cases v with
  | non => cases (show u = Value.none from r); exact h
  | bl b => cases (show u = Value.bool b from r); exact h
  | int i => obtain ⟨t, e⟩ := (show ∃ t, u = Value.int i t from r); cases e; exact h
  | str x => obtain ⟨t, e⟩ := (show ∃ t, u = Value.str x t from r); cases e; exact h
  | byt b => obtain ⟨t, e⟩ := (show ∃ t, u = Value.bytes b t from r); cases e; exact h
  | flt b => obtain ⟨t, e⟩ := (show ∃ t, u = Value.float b t from r); cases e; exact h
  | ref a => cases (show u = Value.ref a from r); exact h
  | ty n => cases (show u = Value.type n from r); exact h
/-- what of the class an own operator asks: f the method, g the reflected one -/
structure OwnOp (K : PySem.W.Frag) (C f g : Addr) (op : Operator) : Prop where
  first : PySem.W.selfFirst K C = true
  at_ : PySem.W.findIn K (.ref C) (PySem.dunder op.info.2) = some (some (.ref f))
  fn : PySem.W.isFn K (.ref f) = true
  ar : PySem.W.findIn K (.ref C) (dunderR op.info.2) = some (some (.ref g))
  fr : PySem.W.isFn K (.ref g) = true
  sub : PySem.W.subIn K (.type "int") (.ref C) = some false
  sub' : PySem.W.subIn K (.ref C) (.type "int") = some false
/-- x op y, x an instance with the own method, y an instance of the same class -/
theorem op_ownR (O : OwnOp X.K C f g op) (F : FnOk X.prog X.w X.K X.mg X.base CX k f fd ps sp) (hr : Room k X.A) (hb : Binds X.K fd ps []) (hx : Passes CX X E) :
    OpR X (binaryOp op) (fun x y H Q => ∃ a b dx dy fs gs, x = .ref a ∧ y = .ref b ∧ H a = some (.ins C dx fs) ∧ H b = some (.ins C dy gs) ∧ sp [.ref a, .ref b] H Q E) := by
  intro pins s σ H x y v u Q I rx ry h
  obtain ⟨a, b, dx, dy, fs, gs, rfl, rfl, ha, hb', q⟩ := h
  cases rx
  cases ry
  obtain ⟨mA, J, _⟩ := ins_get I.hok ha
  obtain ⟨mB, J', _⟩ := ins_get I.hok hb'
  obtain ⟨od, J, _⟩ := J.look
  obtain ⟨od', J', _⟩ := J'.look
  obtain ⟨m, hF⟩ := I.fr
  refine PySem.W.binop_K hF I.ok.mod.kin J J'.type O.first O.at_ O.fn ?_
  exact wpAny_mono (run_fn (us := [.ref a, .ref b]) (vs := [.ref a, .ref b]) F hr hb .nil hx I (.cons rfl (.cons rfl .nil)) q) (fun _ _ z => cmpBack_of z) fun _ _ z => z
/-- x op i, i an int -/
theorem op_ownI {fo ro : Option Value} (O : OwnOp X.K C f g op) (h1 : PySem.W.findIn X.K (.type "int") (PySem.dunder op.info.2) = some fo) (h2 : PySem.W.findIn X.K (.type "int") (dunderR op.info.2) = some ro)
    (F : FnOk X.prog X.w X.K X.mg X.base CX k f fd ps sp) (hr : Room k X.A) (hb : Binds X.K fd ps []) (hx : Passes CX X E) :
    OpR X (binaryOp op) (fun x y H Q => ∃ a i dx fs, x = .ref a ∧ y = .int i ∧ H a = some (.ins C dx fs) ∧ sp [.ref a, .int i] H Q E) := by
  intro pins s σ H x y v u Q I rx ry h
  obtain ⟨a, i, dx, fs, rfl, rfl, ha, q⟩ := h
  cases rx
  obtain ⟨t, rfl⟩ := ry
  obtain ⟨mA, J, _⟩ := ins_get I.hok ha
  obtain ⟨od, J, _⟩ := J.look
  obtain ⟨m, hF⟩ := I.fr
  refine PySem.W.ksp_binT hF I.ok.mod.kin J rfl O.first O.at_ O.fn O.ar (.inr ⟨_, rfl⟩) h1 h2 O.sub ?_
  exact wpAny_mono (run_fn (us := [.ref a, .int i t]) (vs := [.ref a, .int i]) F hr hb .nil hx I (.cons rfl (.cons ⟨t, rfl⟩ .nil)) q) (fun _ _ z => cmpBack_of z) fun _ _ z => z
/-- i op x, i an int: the reflected method, F of g -/
theorem op_ownL {id : String} {B : Builtin} (O : OwnOp X.K C f g op) (hfT : fillsNumberSlot (.type "int") op.info.2 = pure true)
    (slot : PySem.Slot "int" (PySem.dunder op.info.2) id) (entry : entryFor table id = some B) (args : ∀ i t x, argsOk id ⟨[Value.int i t, .ref x], []⟩)
    (dec : ∀ (i : Int) (t : Tok) (x : Addr) (ox : Obj) (s : Shared), s.heap.get? x = some ox → (∀ v, ox.data ≠ .prim v) → ∀ (A : Around) (E : Value → Shared → Prop) (R : PySem.Fin → Shared → Prop), R (.done (.ret .notImplemented)) s →
      wpAny (model X.prog X.w) A (B ⟨[Value.int i t, .ref x], []⟩) R E s)
    (F : FnOk X.prog X.w X.K X.mg X.base CX k g fd ps sp) (hr : Room k X.A) (hb : Binds X.K fd ps []) (hx : Passes CX X E) :
    OpR X (binaryOp op) (fun x y H Q => ∃ a i dx fs, x = .int i ∧ y = .ref a ∧ H a = some (.ins C dx fs) ∧ sp [.ref a, .int i] H Q E) := by
  intro pins s σ H x y v u Q I rx ry h
  obtain ⟨a, i, dx, fs, rfl, rfl, ha, q⟩ := h
  obtain ⟨t, rfl⟩ := rx
  cases ry
  obtain ⟨mA, J, _⟩ := ins_get I.hok ha
  have ho := J.obj
  obtain ⟨od, J, _⟩ := J.look
  obtain ⟨m, hF⟩ := I.fr
  refine PLow.rbin hF I.ok.mod.kin J O.first O.at_ O.ar O.fr hfT O.sub' slot entry (args _ _ _) (dec i t a _ s ho (fun v z => by simp [PySem.W.instObj] at z)) ?_
  exact wpAny_mono (run_fn (us := [.ref a, .int i t]) (vs := [.ref a, .int i]) F hr hb .nil hx I (.cons rfl (.cons ⟨t, rfl⟩ .nil)) q) (fun _ _ z => cmpBack_of z) fun _ _ z => z
/-- -x -/
theorem un_own (hs : PySem.W.findIn X.K (.ref C) "__neg__" = some (some (.ref f))) (hf : PySem.W.isFn X.K (.ref f) = true) (F : FnOk X.prog X.w X.K X.mg X.base CX k f fd ps sp) (hr : Room k X.A) (hb : Binds X.K fd ps []) (hx : Passes CX X E) :
    UnR X (unaryOp .USub) (fun x H Q => ∃ a dx fs, x = .ref a ∧ H a = some (.ins C dx fs) ∧ sp [.ref a] H Q E) := by
  intro pins s σ H x v Q I rx h
  obtain ⟨a, dx, fs, rfl, ha, q⟩ := h
  cases rx
  obtain ⟨mA, J, _⟩ := ins_get I.hok ha
  obtain ⟨od, J, _⟩ := J.look
  obtain ⟨m, hF⟩ := I.fr
  refine PySem.W.ksp_neg hF I.ok.mod.kin J hs hf ?_
  exact run_fn (us := [.ref a]) (vs := [.ref a]) F hr hb .nil hx I (.cons rfl .nil) q
/-- abs(x) -/
theorem call_absOwn (hs : PySem.W.findIn X.K (.ref C) "__abs__" = some (some (.ref f))) (hf : PySem.W.isFn X.K (.ref f) = true) (F : FnOk X.prog X.w X.K X.mg X.base CX k f fd ps sp) (hr : Room (k + 1) X.A) (hb : Binds X.K fd ps []) (hx : Passes CX X E) :
    CallR X (.builtin "abs") (fun xs H Q => ∃ a dx fs, xs = [.ref a] ∧ H a = some (.ins C dx fs) ∧ sp [.ref a] H Q E) := by
  intro pins s σ H xs us Q I r h
  obtain ⟨a, dx, fs, rfl, ha, q⟩ := h
  cases r with
  | cons r1 r2 =>
    cases r2
    cases r1
    obtain ⟨mA, J, _⟩ := ins_get I.hok ha
    obtain ⟨od, J, _⟩ := J.look
    obtain ⟨m, hF⟩ := I.fr
    refine PLow.abs_own hF I.ok.mod.kin J hs hf ?_
    have hl := F.len _ _ _ _ q
    have r2 : Vals [V.ref a] [Value.ref a] := .cons rfl .nil
    refine wpAny_call (codeAny_mono (F.run X.A.in1 X.stack s H ⟨[.ref a], []⟩ [.ref a] [.ref a] Q E hr.in1 I.env0.in1 (by
      have := hb s [.ref a] I.kIn (by simpa using hl)
      simpa using this) r2 q) fun r s' hq => ?_)
    cases r with
    | error e => exact hx pins σ H s e s' I hq
    | ok fl =>
      cases fl with
      | ret w => exact I.after hq
      | next => exact False.elim hq
      | brk => exact False.elim hq
      | cont => exact False.elim hq
/-- // by any divisor but 0 below 2 ^ 9000 in size -/
def CDivS (_ j : Int) : Prop := j ≠ 0 ∧ j.natAbs.log2 < 9000
theorem op_fdivS : OpR X (binaryOp .FloorDiv) (rI CDivS fun i j => .int (i.fdiv j)) := opI fun i j _ _ _ _ _ hc q =>
  floordiv_int hc.1 q (.inl (PyProof.noPylong_of_log2 hc.2))
end
end L2

set_option maxHeartbeats 2000000
namespace PA
/-- below 2 ^ n in size -/
abbrev Sm (n : Nat) (x : Int) : Prop := x.natAbs < 2 ^ n
theorem Sm.mono {n m : Nat} {x : Int} (h : Sm n x) (hn : n ≤ m) : Sm m x := Nat.lt_of_lt_of_le h (Nat.pow_le_pow_right (by decide) hn)
theorem Sm.mul {n m k : Nat} {x y : Int} (hx : Sm n x) (hy : Sm m y) (h : n + m ≤ k) : Sm k (x * y) := by
  refine Sm.mono (n := n + m) ?_ h
  unfold Sm
  rw [Int.natAbs_mul, Nat.pow_add]
  exact Nat.mul_lt_mul'' hx hy
theorem Sm.add {n k : Nat} {x y : Int} (hx : Sm n x) (hy : Sm n y) (h : n + 1 ≤ k) : Sm k (x + y) := by
  refine Sm.mono (n := n + 1) ?_ h
  unfold Sm at *
  rw [Nat.pow_succ]
  omega
theorem Sm.sub {n k : Nat} {x y : Int} (hx : Sm n x) (hy : Sm n y) (h : n + 1 ≤ k) : Sm k (x - y) := by
  refine Sm.mono (n := n + 1) ?_ h
  unfold Sm at *
  rw [Nat.pow_succ]
  omega
theorem Sm.neg {n : Nat} {x : Int} (hx : Sm n x) : Sm n (-x) := by
  unfold Sm at *
  rw [Int.natAbs_neg]
  exact hx
theorem Sm.le {n : Nat} {x y : Int} (hx : Sm n x) (h : y.natAbs ≤ x.natAbs) : Sm n y := Nat.lt_of_le_of_lt h hx
theorem Sm.one {n : Nat} (h : 0 < n) : Sm n 1 := by
  show (1 : Int).natAbs < 2 ^ n
  exact Nat.one_lt_two_pow (by omega)

/-- the divisor that a Ratio shortens by -/
def shr (t b : Int) : Int := if b < 0 then -((Nat.gcd t.natAbs b.natAbs : Nat) : Int) else ((Nat.gcd t.natAbs b.natAbs : Nat) : Int)
/-- lowest terms -/
structure Low (T B : Int) : Prop where
  pos : 0 < B
  cop : Nat.gcd T.natAbs B.natAbs = 1
theorem low_one (i : Int) : Low i 1 := ⟨by decide, Nat.gcd_one_right _⟩
theorem gcd_key {a b c d g : Nat} (h1 : a = c * g) (h2 : b = d * g) : Nat.gcd a b = Nat.gcd c d * g := by
  rw [h1, h2]
  exact Nat.gcd_mul_right _ _ _
theorem rat_mk {t b : Int} (hb : b ≠ 0) : shr t b ≠ 0 ∧ (shr t b).natAbs ≤ b.natAbs ∧ Low (t.fdiv (shr t b)) (b.fdiv (shr t b)) ∧ (t.fdiv (shr t b)) * b = t * (b.fdiv (shr t b)) ∧
    (t.fdiv (shr t b)).natAbs ≤ t.natAbs ∧ (b.fdiv (shr t b)).natAbs ≤ b.natAbs := by
  have hg : 0 < Nat.gcd t.natAbs b.natAbs := Nat.gcd_pos_of_pos_right _ (Int.natAbs_pos.mpr hb)
  have hgb : Nat.gcd t.natAbs b.natAbs ≤ b.natAbs := Nat.gcd_le_right _ (Int.natAbs_pos.mpr hb)
  have hsn : (shr t b).natAbs = Nat.gcd t.natAbs b.natAbs := by
    unfold shr
    split
    · rw [Int.natAbs_neg, Int.natAbs_natCast]
    · rw [Int.natAbs_natCast]
  have hs0 : shr t b ≠ 0 := by
    intro z
    rw [z] at hsn
    simp at hsn
    omega
  have dv : ∀ y : Int, (Nat.gcd t.natAbs b.natAbs) ∣ y.natAbs → ∃ q : Int, y = q * shr t b := by
    intro y hy
    have h1 : ((Nat.gcd t.natAbs b.natAbs : Nat) : Int) ∣ y := Int.ofNat_dvd_left.mpr hy
    obtain ⟨q, hq⟩ := h1
    unfold shr
    split
    · exact ⟨-q, by rw [Int.neg_mul_neg, Int.mul_comm]; exact hq⟩
    · exact ⟨q, by rw [Int.mul_comm]; exact hq⟩
  obtain ⟨T, hT⟩ := dv t (Nat.gcd_dvd_left _ _)
  obtain ⟨B, hB⟩ := dv b (Nat.gcd_dvd_right _ _)
  have eT : t.fdiv (shr t b) = T := by
    conv => lhs; lhs; rw [hT]
    exact Int.mul_fdiv_cancel _ hs0
  have eB : b.fdiv (shr t b) = B := by
    conv => lhs; lhs; rw [hB]
    exact Int.mul_fdiv_cancel _ hs0
  rw [eT, eB]
  have nT : t.natAbs = T.natAbs * Nat.gcd t.natAbs b.natAbs := by
    conv => lhs; rw [hT, Int.natAbs_mul, hsn]
  have nB : b.natAbs = B.natAbs * Nat.gcd t.natAbs b.natAbs := by
    conv => lhs; rw [hB, Int.natAbs_mul, hsn]
  refine ⟨hs0, by rw [hsn]; exact hgb, ⟨?_, ?_⟩, ?_, ?_, ?_⟩
  · have hB0 : B ≠ 0 := by
      intro z
      rw [z, Int.zero_mul] at hB
      exact hb hB
    rcases Int.lt_or_gt_of_ne hB0 with h | h
    · exfalso
      unfold shr at hB
      split at hB
      · rename_i hneg
        have : 0 < B * -((Nat.gcd t.natAbs b.natAbs : Nat) : Int) := Int.mul_pos_of_neg_of_neg h (by omega)
        omega
      · rename_i hneg
        have : B * ((Nat.gcd t.natAbs b.natAbs : Nat) : Int) < 0 := Int.mul_neg_of_neg_of_pos h (by omega)
        omega
    · exact h
  · have e : Nat.gcd t.natAbs b.natAbs = Nat.gcd T.natAbs B.natAbs * Nat.gcd t.natAbs b.natAbs := by
      exact gcd_key nT nB
    have e2 : 1 * Nat.gcd t.natAbs b.natAbs = Nat.gcd T.natAbs B.natAbs * Nat.gcd t.natAbs b.natAbs := by rw [Nat.one_mul]; exact e
    exact (Nat.eq_of_mul_eq_mul_right hg e2).symm
  · calc T * b = T * (B * shr t b) := by rw [← hB]
      _ = (T * shr t b) * B := by rw [Int.mul_comm B, ← Int.mul_assoc]
      _ = t * B := by rw [← hT]
  · rw [nT]; exact Nat.le_mul_of_pos_right _ hg
  · rw [nB]; exact Nat.le_mul_of_pos_right _ hg
/-- a fraction has one lowest form -/
theorem Low.uniq {T B T' B' : Int} (h : Low T B) (h' : Low T' B') (e : T * B' = T' * B) : T = T' ∧ B = B' := by
  have n : T.natAbs * B'.natAbs = T'.natAbs * B.natAbs := by rw [← Int.natAbs_mul, ← Int.natAbs_mul, e]
  have d1 : B.natAbs ∣ B'.natAbs := by
    have : B.natAbs ∣ T.natAbs * B'.natAbs := ⟨T'.natAbs, by rw [n, Nat.mul_comm]⟩
    exact (Nat.Coprime.symm h.cop).dvd_of_dvd_mul_left this
  have d2 : B'.natAbs ∣ B.natAbs := by
    have : B'.natAbs ∣ T'.natAbs * B.natAbs := ⟨T.natAbs, by rw [← n, Nat.mul_comm]⟩
    exact (Nat.Coprime.symm h'.cop).dvd_of_dvd_mul_left this
  have eB : B = B' := by
    have := Nat.dvd_antisymm d1 d2
    have p1 := h.pos
    have p2 := h'.pos
    omega
  subst eB
  have hB : B ≠ 0 := by have := h.pos; omega
  exact ⟨Int.eq_of_mul_eq_mul_right hB e, rfl⟩
theorem Low.neg {T B : Int} (h : Low T B) : Low (-T) B := ⟨h.pos, by rw [Int.natAbs_neg]; exact h.cop⟩
/-- a = n / d and b = n / d -/
theorem cross {a b n d x y : Int} (hb : b ≠ 0) (h1 : a * d = n * b) (h2 : n * y = x * d) (hd : d ≠ 0) : a * y = x * b := by
  have : (a * y) * d = (x * b) * d := by
    calc (a * y) * d = (a * d) * y := by rw [Int.mul_assoc, Int.mul_comm y, ← Int.mul_assoc]
      _ = (n * b) * y := by rw [h1]
      _ = (n * y) * b := by rw [Int.mul_assoc, Int.mul_comm b, ← Int.mul_assoc]
      _ = (x * d) * b := by rw [h2]
      _ = (x * b) * d := by rw [Int.mul_assoc, Int.mul_comm d, ← Int.mul_assoc]
  exact Int.eq_of_mul_eq_mul_right hd this
end PA

set_option maxHeartbeats 2000000
/-! what serves every row -/
namespace L2
open PySem PySem.Spec PyProof.Rows
theorem PI.or {X : Cx} {tg l : Expr} {w1 w2 : TI} (h1 : PI X tg l w1) (h2 : PI X tg l w2) : PI X tg l (fun σ H R => w1 σ H R ∨ w2 σ H R) :=
  ⟨fun pins s σ H R I h => h.elim (h1.run pins s σ H R I) (h2.run pins s σ H R I)⟩
/-- a list or a tuple -/
def Sq (K : PySem.W.Frag) (H : Hp) (a : Addr) (xs : List V) : Prop := SqL K H a xs ∨ SqT K H a xs
theorem SqT.up {K : PySem.W.Frag} {H H' : Hp} {a : Addr} {xs : List V} (h : SqT K H a xs) (e : Same H H') : SqT K H' a xs :=
  h.elim (fun h => .inl (h.elim (fun h => .inl (e _ _ h)) fun ⟨o, h⟩ => .inr ⟨o, e _ _ h⟩)) fun h => .inr h
theorem SqL.up {K : PySem.W.Frag} {H H' : Hp} {a : Addr} {xs : List V} (h : SqL K H a xs) (e : Same H H') : SqL K H' a xs :=
  h.elim (fun h => .inl (h.elim (fun h => .inl (e _ _ h)) fun ⟨o, h⟩ => .inr ⟨o, e _ _ h⟩)) fun h => .inr h
theorem Sq.up {K : PySem.W.Frag} {H H' : Hp} {a : Addr} {xs : List V} (h : Sq K H a xs) (e : Same H H') : Sq K H' a xs := h.imp (fun h => SqL.up h e) fun h => SqT.up h e
theorem walk_l {K : PySem.W.Frag} {a : Addr} {xs : List V} : Walk (Itl K a) xs.length (fun H => SqL K H a xs) (YAt xs) :=
  ⟨fun i H hi q => ⟨xs, xs[i], q, by simp [hi]⟩, fun H q => ⟨xs, q, Nat.le_refl _⟩, fun i H x H' hi q y => ⟨y.1, y.2 xs q⟩⟩
theorem walk_t {K : PySem.W.Frag} {a : Addr} {xs : List V} : Walk (Itt K a) xs.length (fun H => SqT K H a xs) (YAt xs) :=
  ⟨fun i H hi q => ⟨xs, xs[i], q, by simp [hi]⟩, fun H q => ⟨xs, q, Nat.le_refl _⟩, fun i H x H' hi q y => ⟨y.1, y.2 xs q⟩⟩
/-- how a value that is a list or a tuple of xs stands, as one of the two -/
inductive Kind where
  | l | t
def Sk (K : PySem.W.Frag) (k : Kind) (H : Hp) (a : Addr) (xs : List V) : Prop := match k with
  | .l => SqL K H a xs
  | .t => SqT K H a xs
theorem Sk.sq {K : PySem.W.Frag} {k : Kind} {H : Hp} {a : Addr} {xs : List V} (h : Sk K k H a xs) : Sq K H a xs := by
  cases k
  · exact .inl h
  · exact .inr h
theorem Sk.up {K : PySem.W.Frag} {k : Kind} {H H' : Hp} {a : Addr} {xs : List V} (h : Sk K k H a xs) (e : Same H H') : Sk K k H' a xs := by
  cases k
  · exact SqL.up h e
  · exact SqT.up h e
theorem Sq.kind {K : PySem.W.Frag} {H : Hp} {a : Addr} {xs : List V} (h : Sq K H a xs) : ∃ k, Sk K k H a xs := h.elim (fun h => ⟨.l, h⟩) fun h => ⟨.t, h⟩
def ItSq (K : PySem.W.Frag) (k : Kind) (a : Addr) : It := match k with
  | .l => Itl K a
  | .t => Itt K a
theorem walk_k {K : PySem.W.Frag} {k : Kind} {a : Addr} {xs : List V} : Walk (ItSq K k a) xs.length (fun H => Sk K k H a xs) (YAt xs) := by
  cases k
  · exact walk_l
  · exact walk_t
/-- a walk over a list or a tuple -/
def iSq (K : PySem.W.Frag) (tl : TE) : TI := fun σ H R => ∃ k : Kind, tl σ H fun x H1 => ∃ a, x = .ref a ∧ (∃ xs, Sk K k H1 a xs) ∧ R (ItSq K k a) H1
theorem pi_sq {X : Cx} {tg l : Expr} {tl : TE} (hl : PE X l tl) : PI X tg l (iSq X.K tl) := by
  refine ⟨fun pins s σ H R I ⟨k, h⟩ => ?_⟩
  cases k
  · exact (pi_list hl).run pins s σ H R I h
  · exact (pi_tup hl).run pins s σ H R I h
/-! ### comprehensions -/
section
variable {J : It} {n : Nat} {G : Hp → Prop} {xs : List V} {g : TG} {tt : TT} {te : TE} {vs : List Nat} {σ : L2.St} {H1 : Hp} {D : Addr} {Qd : Hp → Prop}
theorem new_ {H : Hp} {p : Addr} {o : HO} (hp : H p = none) : Same H (upd H p o) := fun b u e => by
  rw [upd_ne (ne_of_none e hp)]
  exact e
/-- all but D is as it was -/
def But (D : Addr) (H H' : Hp) : Prop := ∀ c o, c ≠ D → H c = some o → H' c = some o
/-- the values are made one after another, the heap of before stays -/
theorem lc_acc (w : Walk J n G (YAt xs)) (hn : n ≤ sizeLine) (hD : H1 D = none) (hG : ∀ H, Same H1 H → G H) (A : Nat → List V → Hp → Prop) (hl : ∀ i acc H, A i acc H → acc.length ≤ i) (A0 : A 0 [] (upd H1 D (.lst [])))
    (hs : ∀ (i : Nat) (x : V) (H : Hp) (acc : List V) (Φ : V → Hp → Prop) (Ψ : Hp → Prop), i < n → xs[i]? = some x → Same H1 H → H D = some (.lst acc) → A i acc H →
      (∀ y H4, Same H H4 → H4 D = some (.lst acc) → (∀ H5, H5 D = some (.lst (acc ++ [y])) → But D H4 H5 → But D H5 H4 → A (i + 1) (acc ++ [y]) H5) → Φ y H4) →
      g x (wipe σ vs) H fun σ2 H2 => wipe σ2 vs = wipe σ vs ∧ tt σ2 H2 fun b H3 => if b = true then te σ2 H3 Φ else Ψ H3)
    (hd : ∀ H acc, Same H1 H → H D = some (.lst acc) → A n acc H → Qd H) :
    ∃ W : Nat → Nat → Hp → Prop, (∃ m, W 0 m (upd H1 D (.lst []))) ∧ ∀ i m H, W i m H →
      (J.stop i H ∧ Qd H) ∨ (J.go i H ∧ ∃ Nx : Hp → Prop, (∀ H', Nx H' → ∃ m', m' < m ∧ W (i + 1) m' H') ∧ ∀ x H', J.yld i H x H' → g x (wipe σ vs) H' fun σ2 H2 => wipe σ2 vs = wipe σ vs ∧ tt σ2 H2 fun b H3 =>
        if b = true then te σ2 H3 fun y H4 => ∃ acc, H4 D = some (.lst acc) ∧ acc.length < sizeLine ∧ Nx (upd H4 D (.lst (acc ++ [y]))) else Nx H3) := by
  refine lc_it w (fun i H => Same H1 H ∧ ∃ acc, H D = some (.lst acc) ∧ A i acc H) ⟨new_ hD, [], upd_same, A0⟩ (fun i H _ p => hG H p.1) (fun i x H H' hi p y => ?_) fun H p => ?_
  · obtain ⟨rfl, hx⟩ := y
    obtain ⟨sm, acc, hd', ha⟩ := p
    refine hs i x _ acc _ _ hi hx sm hd' ha fun y H4 s4 d4 k => ⟨acc, d4, Nat.lt_of_lt_of_le (Nat.lt_of_le_of_lt (hl _ _ _ ha) hi) hn, fun c o e => ?_, acc ++ [y], upd_same, k _ upd_same (fun c o cd e => ?_) fun c o cd e => ?_⟩
    · rw [upd_ne (ne_of_none e hD)]
      exact s4 _ _ (sm _ _ e)
    · rw [upd_ne cd]
      exact e
    · rw [upd_ne cd] at e
      exact e
  · obtain ⟨sm, acc, hd', ha⟩ := p
    exact hd H acc sm hd' ha
/-- values that do not hang on the heap -/
theorem lc_same (w : Walk J n G (YAt xs)) (hn : n ≤ sizeLine) (hD : H1 D = none) (hG : ∀ H, Same H1 H → G H) (ys : List V) (hy : ys.length = n)
    (hs : ∀ (i : Nat) (x y : V) (H : Hp) (Φ : V → Hp → Prop) (Ψ : Hp → Prop), xs[i]? = some x → ys[i]? = some y → Same H1 H → (∀ H4, Same H H4 → Φ y H4) →
      g x (wipe σ vs) H fun σ2 H2 => wipe σ2 vs = wipe σ vs ∧ tt σ2 H2 fun b H3 => if b = true then te σ2 H3 Φ else Ψ H3)
    (hd : ∀ H, Same H1 H → H D = some (.lst ys) → Qd H) :
    ∃ W : Nat → Nat → Hp → Prop, (∃ m, W 0 m (upd H1 D (.lst []))) ∧ ∀ i m H, W i m H →
      (J.stop i H ∧ Qd H) ∨ (J.go i H ∧ ∃ Nx : Hp → Prop, (∀ H', Nx H' → ∃ m', m' < m ∧ W (i + 1) m' H') ∧ ∀ x H', J.yld i H x H' → g x (wipe σ vs) H' fun σ2 H2 => wipe σ2 vs = wipe σ vs ∧ tt σ2 H2 fun b H3 =>
        if b = true then te σ2 H3 fun y H4 => ∃ acc, H4 D = some (.lst acc) ∧ acc.length < sizeLine ∧ Nx (upd H4 D (.lst (acc ++ [y]))) else Nx H3) := by
  refine lc_acc w hn hD hG (fun i acc _ => acc = ys.take i) (fun i acc H e => by rw [e, List.length_take]; omega) (by rw [List.take_zero]) (fun i x H acc Φ Ψ hi hx sm hd' ha k => ?_) fun H acc sm hd' ha => hd H sm ?_
  · have hi' : i < ys.length := by omega
    have ey : ys[i]? = some ys[i] := List.getElem?_eq_getElem hi'
    refine hs i x ys[i] H Φ Ψ hx ey sm fun H4 s4 => k _ H4 s4 (s4 _ _ hd') fun H5 _ _ _ => ?_
    rw [ha, List.take_add_one, ey]
    rfl
  · rw [hd', ha, ← hy, List.take_length]
end
/-! ### x in an instance with the own method -/
section
variable {X : Cx} {CX : CXT} {k : Nat} {C f : Addr} {fd : FuncData} {ps : List Str} {sp : Sp} {E : XK}
theorem op_inOwn (hs : PySem.W.findIn X.K (.ref C) "__contains__" = some (some (.ref f))) (hf : PySem.W.isFn X.K (.ref f) = true) (F : FnOk X.prog X.w X.K X.mg X.base CX k f fd ps sp) (hr : Room k X.A) (hb : Binds X.K fd ps []) (hx : Passes CX X E) :
    OpR X (compareOp .In) (fun x y H Q => ∃ a dx fs, y = .ref a ∧ H a = some (.ins C dx fs) ∧ sp [.ref a, x] H (fun v H' => ∃ b, v = .bl b ∧ Q (.bl b) H') E) := by
  intro pins s σ H x y v u Q I rx ry h
  obtain ⟨a, dx, fs, rfl, ha, q⟩ := h
  cases ry
  obtain ⟨mA, J, _⟩ := ins_get I.hok ha
  obtain ⟨od, J, _⟩ := J.look
  obtain ⟨m, hF⟩ := I.fr
  refine PySem.W.in_K hF I.ok.mod.kin J hs hf ?_
  refine wpAny_mono (run_fn (us := [.ref a, v]) (vs := [.ref a, x]) F hr hb .nil hx I (.cons rfl (.cons rx .nil)) q) (fun w s' z => ?_) fun _ _ z => z
  obtain ⟨v', H', I', rv, b, rfl, q'⟩ := z
  cases rv
  exact wpAny_truthy_bool ⟨.bl b, H', I', rfl, q'⟩
theorem op_notInOwn (hs : PySem.W.findIn X.K (.ref C) "__contains__" = some (some (.ref f))) (hf : PySem.W.isFn X.K (.ref f) = true) (F : FnOk X.prog X.w X.K X.mg X.base CX k f fd ps sp) (hr : Room k X.A) (hb : Binds X.K fd ps []) (hx : Passes CX X E) :
    OpR X (compareOp .NotIn) (fun x y H Q => ∃ a dx fs, y = .ref a ∧ H a = some (.ins C dx fs) ∧ sp [.ref a, x] H (fun v H' => ∃ b, v = .bl b ∧ Q (.bl (!b)) H') E) := by
  intro pins s σ H x y v u Q I rx ry h
  obtain ⟨a, dx, fs, rfl, ha, q⟩ := h
  cases ry
  obtain ⟨mA, J, _⟩ := ins_get I.hok ha
  obtain ⟨od, J, _⟩ := J.look
  obtain ⟨m, hF⟩ := I.fr
  refine PySem.W.notIn_K hF I.ok.mod.kin J hs hf ?_
  refine wpAny_mono (run_fn (us := [.ref a, v]) (vs := [.ref a, x]) F hr hb .nil hx I (.cons rfl (.cons rx .nil)) q) (fun w s' z => ?_) fun _ _ z => z
  obtain ⟨v', H', I', rv, b, rfl, q'⟩ := z
  cases rv
  exact wpAny_truthy_bool ⟨.bl (!b), H', I', rfl, q'⟩
end
end L2

set_option maxHeartbeats 2000000
namespace L2
open PySem PySem.Spec PyProof.Rows RZ
/-! ### zip, slices of lists and tuples -/
theorem walk_zipT {K : PySem.W.Frag} {a b : Addr} {xs ys : List V} {n : Nat} (hn : n = min xs.length ys.length) : Walk (ItzT K a b) n (fun H => SqT K H a xs ∧ SqT K H b ys) (YPair (fun i => xs[i]?) (fun i => ys[i]?)) :=
  ⟨fun i H hi q => ⟨xs, ys, xs[i]'(by omega), ys[i]'(by omega), q.1, q.2, List.getElem?_eq_getElem _, List.getElem?_eq_getElem _⟩,
    fun H q => ⟨xs, ys, q.1, q.2, by omega⟩, fun i H v H' hi q y => by
      obtain ⟨T, x, y', rfl, hT, rfl, f1, f2⟩ := y
      exact ⟨T, x, y', rfl, hT, rfl, f1 xs q.1, f2 ys q.2⟩⟩
def ItZk (K : PySem.W.Frag) (k : Kind) (a b : Addr) : It := match k with
  | .l => Itz K a b
  | .t => ItzT K a b
theorem walk_zk {K : PySem.W.Frag} {k : Kind} {a b : Addr} {xs ys : List V} {n : Nat} (hn : n = min xs.length ys.length) : Walk (ItZk K k a b) n (fun H => Sk K k H a xs ∧ Sk K k H b ys) (YPair (fun i => xs[i]?) (fun i => ys[i]?)) := by
  cases k
  · exact walk_zip hn
  · exact walk_zipT hn
theorem zip_k {K : PySem.W.Frag} {k : Kind} {H : Hp} {a b : Addr} {xs ys : List V} {R : It → Hp → Prop} (ha : Sk K k H a xs) (hb : Sk K k H b ys) (h : R (ItZk K k a b) H) :
    (SqL K H a xs ∧ SqL K H b ys ∧ R (Itz K a b) H) ∨ (SqT K H a xs ∧ SqT K H b ys ∧ R (ItzT K a b) H) := by
  cases k
  · exact .inl ⟨ha, hb, h⟩
  · exact .inr ⟨ha, hb, h⟩
theorem cut_all {xs : List V} {lo hi : Option Int} (h : HT.sIx xs.length 0 lo = 0 ∧ HT.sIx xs.length xs.length hi = xs.length) : cutV xs lo hi = xs := by
  unfold cutV
  rw [h.1, h.2, List.drop_zero, Nat.sub_zero, List.take_length]
theorem sl_k {K : PySem.W.Frag} {k : Kind} {H : Hp} {a : Addr} {xs : List V} {lo hi : Option Int} {Q : V → Hp → Prop} (ha : Sk K k H a xs) (h : ∀ p H', Same H H' → Sk K k H' p (cutV xs lo hi) → Q (.ref p) H') :
    rSlL K (.ref a) lo hi H Q ∨ rSlA K (.ref a) lo hi H Q := by
  cases k
  · exact .inl ⟨a, xs, rfl, ha, fun p hp => h p _ (new_ hp) (SqL.of upd_same)⟩
  · exact .inr ⟨a, xs, rfl, ha, fun w => h a H (fun _ _ e => e) (by rw [cut_all w]; exact ha), fun _ p hp => h p _ (new_ hp) (SqT.of upd_same)⟩
theorem cut_1 (xs : List V) : cutV xs (some (1 : Int)) none = xs.drop 1 := by
  unfold cutV
  rw [show (1 : Int) = ((1 : Nat) : Int) from rfl, HT.sIx_nat, HT.sIx_none]
  rcases Nat.eq_zero_or_pos xs.length with h | h
  · have : xs = [] := List.length_eq_zero_iff.mp h
    subst this
    rfl
  · rw [Nat.min_eq_left h, List.take_of_length_le (by rw [List.length_drop]; exact Nat.le_refl _)]
theorem cut_to (xs : List V) (n : Nat) : cutV xs none (some (n : Int)) = xs.take n := by
  unfold cutV
  rw [HT.sIx_nat, HT.sIx_none, List.drop_zero, Nat.sub_zero]
  rcases Nat.le_total n xs.length with h | h
  · rw [Nat.min_eq_left h]
  · rw [Nat.min_eq_right h, List.take_length, List.take_of_length_le h]
/-! ### small words -/
theorem take_succ' {α : Type} {l : List α} {i : Nat} {x : α} (h : l[i]? = some x) : l.take (i + 1) = l.take i ++ [x] := by
  rw [List.take_add_one, h]
  rfl
theorem ifD_no {p A B : Prop} [Decidable p] (h : ¬ p) (q : B) : if decide p = true then A else B := by
  rw [decide_eq_false h]
  exact iteF q
theorem ifD_yes {p A B : Prop} [Decidable p] (h : p) (q : A) : if decide p = true then A else B := by
  rw [decide_eq_true h]
  exact iteT q
theorem ifD_2 {p A B : Prop} [Decidable p] (h1 : p → A) (h2 : ¬ p → B) : if decide p = true then A else B := by
  by_cases h : p
  · exact ifD_yes h (h1 h)
  · exact ifD_no h (h2 h)
theorem ifB_2 {b : Bool} {A B : Prop} (h1 : b = true → A) (h2 : b = false → B) : if b = true then A else B := by
  cases b
  · exact iteF (h2 rfl)
  · exact iteT (h1 rfl)
theorem Same.none {H H' : Hp} {x : Addr} (s : Same H H') (h : H' x = Option.none) : H x = Option.none := by
  cases e : H x with
  | none => rfl
  | some o => rw [s _ _ e] at h; cases h
theorem all_true (n : Nat) : (List.replicate n true).all id = true := by
  rw [List.all_eq_true]
  intro x hx
  rw [(List.mem_replicate.mp hx).2]
  rfl
theorem boot_isi : bootBuiltins "isinstance" = some (.builtin "isinstance") := by decide +kernel
theorem boot_int' : bootBuiltins "int" = some (.type "int") := by decide +kernel
theorem boot_bool' : bootBuiltins "bool" = some (.type "bool") := by decide +kernel
theorem boot_tuple' : bootBuiltins "tuple" = some (.type "tuple") := by decide +kernel
theorem boot_list' : bootBuiltins "list" = some (.type "list") := by decide +kernel
theorem boot_all' : bootBuiltins "all" = some (.builtin "all") := by decide +kernel
structure Df (K : PySem.W.Frag) (mg : Str → Option Value) (x : Str) (st : Stmt) (f : Addr) (fd : FuncData) (ps : List Str) : Prop where
  F : Fun K x x st f fd
  B : Binds K fd ps []
  M : mg x = some (.ref f)
def rTupK (K : PySem.W.Frag) : List V → Hp → (V → Hp → Prop) → Prop := fun xs H Q => ∃ p ys, xs = [.ref p] ∧ ((SqL K H p ys ∧ ∀ l, H l = none → Q (.ref l) (upd H l (.tup ys))) ∨ (SqT K H p ys ∧ Q (.ref p) H))
theorem call_tupleK {X : Cx} {K : PySem.W.Frag} (h : X.K = K) : CallR X (.type "tuple") (rTupK K) := h ▸ call_tuple_of
def rLstK (K : PySem.W.Frag) : List V → Hp → (V → Hp → Prop) → Prop := fun xs H Q => ∃ p ys, xs = [.ref p] ∧ (SqL K H p ys ∨ SqT K H p ys) ∧ ∀ l, H l = none → Q (.ref l) (upd H l (.lst ys))
theorem call_listK {X : Cx} {K : PySem.W.Frag} (h : X.K = K) : CallR X (.type "list") (rLstK K) := h ▸ call_list_of
def rLenK (K : PySem.W.Frag) : List V → Hp → (V → Hp → Prop) → Prop := fun xs H Q => ∃ p ys, xs = [.ref p] ∧ (SqL K H p ys ∨ SqT K H p ys) ∧ Q (.int ys.length) H
theorem call_lenK {X : Cx} {K : PySem.W.Frag} (h : X.K = K) : CallR X (.builtin "len") (rLenK K) := h ▸ call_len_seq
def rIxTK (K : PySem.W.Frag) : R2 := fun x y H Q => ∃ p xs i v, x = .ref p ∧ y = .int i ∧ SqT K H p xs ∧ atI xs i = some v ∧ Q v H
theorem ix_tupK {X : Cx} {K : PySem.W.Frag} (h : X.K = K) : IxR X (rIxTK K) := h ▸ ix_tup
/-! ### what stands at each place of a list of references -/
def Ea {α : Type} (H : Hp) (P : Hp → Addr → α → Prop) (xs : List V) (ds : List α) : Prop := xs.length = ds.length ∧ ∀ (i : Nat) (x : V) (r : α), xs[i]? = some x → ds[i]? = some r → ∃ c, x = .ref c ∧ P H c r
section
variable {α : Type} {H H' : Hp} {P P' : Hp → Addr → α → Prop} {xs ys : List V} {ds es : List α} {c : Addr} {r : α}
theorem Ea.imp (e : Ea H P xs ds) (f : ∀ c r, P H c r → P' H' c r) : Ea H' P' xs ds := ⟨e.1, fun i x r h1 h2 => let ⟨c, hx, q⟩ := e.2 i x r h1 h2; ⟨c, hx, f c r q⟩⟩
theorem Ea.nil : Ea H P [] [] := ⟨rfl, fun i x r h _ => by simp at h⟩
theorem Ea.append (e : Ea H P xs ds) (e' : Ea H P ys es) : Ea H P (xs ++ ys) (ds ++ es) := by
  refine ⟨by rw [List.length_append, List.length_append, e.1, e'.1], fun i x r h1 h2 => ?_⟩
  rcases Nat.lt_or_ge i xs.length with hi | hi
  · rw [List.getElem?_append_left hi] at h1
    rw [List.getElem?_append_left (by rw [← e.1]; exact hi)] at h2
    exact e.2 i x r h1 h2
  · rw [List.getElem?_append_right hi] at h1
    rw [List.getElem?_append_right (by rw [← e.1]; exact hi), ← e.1] at h2
    exact e'.2 _ x r h1 h2
theorem Ea.one (q : P H c r) : Ea H P [.ref c] [r] := by
  refine ⟨rfl, fun i x r' h1 h2 => ?_⟩
  match i, h1, h2 with
  | 0, h1, h2 =>
    cases h1
    cases h2
    exact ⟨c, rfl, q⟩
  | (j + 1), h1, _ => simp at h1
theorem Ea.push (e : Ea H P xs ds) (q : P H c r) : Ea H P (xs ++ [.ref c]) (ds ++ [r]) := e.append (.one q)
theorem Ea.get (e : Ea H P xs ds) {i : Nat} {r : α} (h : ds[i]? = some r) : ∃ c, xs[i]? = some (.ref c) ∧ P H c r := by
  have hi : i < xs.length := by rw [e.1]; exact (List.getElem?_eq_some_iff.mp h).1
  obtain ⟨c, hc, q⟩ := e.2 i _ r (List.getElem?_eq_getElem hi) h
  exact ⟨c, by rw [List.getElem?_eq_getElem hi, hc], q⟩
theorem Ea.at_ (e : Ea H P xs ds) {i : Nat} {x : V} (h : xs[i]? = some x) : ∃ c r, x = .ref c ∧ ds[i]? = some r ∧ P H c r := by
  have hi : i < ds.length := by rw [← e.1]; exact (List.getElem?_eq_some_iff.mp h).1
  obtain ⟨c, hc, q⟩ := e.2 i _ _ h (List.getElem?_eq_getElem hi)
  exact ⟨c, _, hc, List.getElem?_eq_getElem hi, q⟩
end
/-- a tuple at c of what r is written as -/
def TupOf {α : Type} (f : α → List V) (H : Hp) (c : Addr) (r : α) : Prop := H c = some (.tup (f r))
section
variable {α : Type} {f : α → List V} {H H' : Hp} {xs : List V} {ds : List α} {c p C dx : Addr} {r : α}
theorem TupOf.lst {ys zs : List V} (q : TupOf f H c r) (hD : H p = some (.lst ys)) : TupOf f (upd H p (.lst zs)) c r := by
  unfold TupOf
  rw [upd_ne (ne_of (H := H) q hD (by intro z; cases z))]
  exact q
theorem TupOf.ins {fs : List (Str × V)} {o : HO} (q : TupOf f H c r) (hp : H p = some (.ins C dx fs)) : TupOf f (upd H p o) c r := by
  unfold TupOf
  rw [upd_ne (ne_of (H := H) q hp (by intro z; cases z))]
  exact q
theorem TupOf.but {ys : List V} (q : TupOf f H c r) (hD : H p = some (.lst ys)) (b : But p H H') : TupOf f H' c r := b _ _ (ne_of (H := H) q hD (by intro z; cases z)) q
theorem Ea.same (e : Ea H (TupOf f) xs ds) (s : Same H H') : Ea H' (TupOf f) xs ds := e.imp fun c r q => s _ _ q
end
end L2

set_option maxHeartbeats 4000000
namespace L2
open PySem PySem.Spec PyProof.Rows
/-! ### static methods -/
theorem entry_sm : entryFor table "staticmethod.__get__" = some Builtin.«staticmethod.__get__» := entryFor_of_tree rfl
theorem args_sm (a b c : Value) : argsOk "staticmethod.__get__" { pos := [a, b, c] } := rfl
theorem slot_sm : Slot "staticmethod" (Str.ofString "__get__") "staticmethod.__get__" := by
  refine Slot.of (owner := "staticmethod") (n := "__get__") ?_ ?_ ?_ ?_ ?_ ?_
  · rw [typeLookup_type, builtinLookup_eq_fast]
    rfl
  · decide +kernel
  · decide +kernel
  · decide +kernel
  · left; decide +kernel
  · rw [isSubtype_type]
    rfl
theorem sm_get {prog : Program} {w : World} {A : Around} {s : Shared} {K : PySem.W.Frag} {p C : Addr} {R : Result → Shared → Prop} {f obj : Value} {rest : List Value} (h : K.In s.heap) (hr : PySem.W.recIn K p "staticmethod" = some (f :: rest)) (k : R (.ok (.ret f)) s) :
    codeAny (model prog w) A (.call (.builtin "staticmethod.__get__") { pos := [.ref p, obj, .ref C] }) R s := by
  obtain ⟨d, sl, e⟩ := PySem.W.rec_of h hr
  refine codeAny_call_builtin slot_sm.plain entry_sm (slot_sm.check _ _ _ _ _ _ _ _ ⟨_, e, rfl⟩ (args_sm _ _ _) ?_)
  show wpAny _ _ (Builtin.«staticmethod.__get__» { pos := [.ref p, obj, .ref C] }) _ _ s
  unfold Builtin.«staticmethod.__get__»
  rw [PySem.W.dga_cls]
  refine wpAny_bind (PySem.W.nd_pure ?_)
  refine wpAny_bind ?_
  unfold field
  refine wpAny_bind ?_
  unfold fieldsOf
  refine wpAny_bind (PySem.W.nd_load e ?_)
  refine PySem.W.nd_pure ?_
  refine wpAny_pure ?_
  have e0 : (f :: rest).toArray[0]? = some f := by simp
  rw [e0]
  refine wpAny_pure ?_
  unfold ret
  refine wpAny_pure ?_
  exact k
structure SMet (K : PySem.W.Frag) (C : Addr) (mc : Value) (m : Str) (p g : Addr) : Prop where
  at_ : PySem.W.findCls K (.ref C) mc m = some (.get (.builtin "staticmethod.__get__") (.ref p) .none (.ref C))
  rc : ∃ rest, PySem.W.recIn K p "staticmethod" = some (.ref g :: rest)
  hi : PySem.W.handedIn (.ref g) = true
theorem getsm_ok {X : Cx} {pins : List (Addr × Obj)} {σ : L2.St} {H : Hp} {s : Shared} {C p g : Addr} {mc : Value} {m : Str} {A : Around} {E : Value → Shared → Prop} {b : Bool} {Q : Value → Shared → Prop}
    (I : L2.Inv X pins σ H s) (r : ClX.CRead X.K C mc) (c : SMet X.K C mc m p g) (k : ∀ s', L2.Inv X pins σ H s' → Q (.ref g) s') : wpAny (model X.prog X.w) A (getAttr (.ref C) m b) Q E s := by
  obtain ⟨rest, hr⟩ := c.rc
  exact PySem.W.cls_bind I.kIn r.rd c.at_ (wpAny_call (sm_get I.kIn hr (PySem.W.handed_on c.hi (k _ (I.tok _)))))
theorem getmethsm_ok {X : Cx} {pins : List (Addr × Obj)} {σ : L2.St} {H : Hp} {s : Shared} {C p g : Addr} {mc : Value} {m : Str} {A : Around} {E : Value → Shared → Prop} {pl : Sem Bool} {Q : Value × List Value → Shared → Prop}
    (I : L2.Inv X pins σ H s) (r : ClX.CRead X.K C mc) (c : SMet X.K C mc m p g) (k : ∀ s', L2.Inv X pins σ H s' → Q (.ref g, []) s') : wpAny (model X.prog X.w) A (getMethod (.ref C) m pl) Q E s :=
  PySem.W.method_cls I.kIn r.ga (getsm_ok I r c k)
def tSMeth (C : Addr) (sp : Sp) (E : XK) (ta : TE) (t : TA) : TE := fun σ H Q => ta σ H fun x H1 => x = .ref C ∧ t σ H1 fun vs H2 => sp vs H2 Q E
theorem pe_smeth {X : Cx} {CX : CXT} {k : Nat} {C p g : Addr} {fd : FuncData} {ps : List Str} {mc : Value} {sp : Sp} {E : XK} {o e : PySem.Expr} {es : List PySem.Expr} {m : Str} {pos apos : Pos} {ta : TE} {t : TA} {pl : Sem Bool}
    (ho : PE X o ta) (r : ClX.CRead X.K C mc) (c : SMet X.K C mc m p g) (F : FnOk X.prog X.w X.K X.mg X.base CX k g fd ps sp) (hr : Room k X.A) (kp : PySem.W.keepIn X.K (.ref g) = true) (hb : Binds X.K fd ps []) (hx : Passes CX X E) (ha : PA X (e :: es) t)
    (hs : starEach (e :: es) X.env = (false, eval e X.env) :: starEach es X.env := by rfl) (hpl : ((backTo pos (starEach es X.env)).any fun x => x.fst) = false := by rfl)
    (he : eval ((o.Attribute m apos).Call (e :: es) [] pos) X.env = (do
      let ov ← eval o X.env
      standAt apos.atName
      let __x ← holding [ov] (getMethod ov m pl)
      match __x with
      | (f, first) => callWith pos f first (backTo pos (starEach (e :: es) X.env)) (backToKw pos (keywordEach [] X.env))) := by rfl) :
    PE X ((o.Attribute m apos).Call (e :: es) [] pos) (tSMeth C sp E ta t) := by
  refine ⟨fun pins s σ H Q I h => PySem.W.methodCall_KW (pl := pl) (thn (ho.run pins s σ H _ I h) fun v s1 q => ?_) he⟩
  obtain ⟨x, H1, I1, rx, rfl, q⟩ := q
  cases rx
  refine getmethsm_ok I1 r c fun s2 I2 => ?_
  refine PySem.W.callWith_K I2.ok.mod.kin kp (thn (ha.run pos pins s2 σ H1 _ I2 q) fun us s3 q3 => ?_) hs hpl
  obtain ⟨vs, H3, I3, rv, q3⟩ := q3
  exact ⟨I3.kIn, run_fn F hr hb .nil hx I3 rv (by simpa using q3)⟩
end L2

set_option maxHeartbeats 2000000
namespace PLow
open PySem PySem.W PySem.Calls PyProof.Rows
section
variable {prog : Program} {w : World} {A : Around} {E : Value → Shared → Prop} {s : Shared} {K : Frag} {x C L f : Addr} {h₀ : Heap} {m : Str → Option Value} {ox : Obj} {od : Option Obj}
/-- bool(x) by the own method -/
theorem bool_own {Q : Value → Shared → Prop} (F : Fr h₀ L s.heap m) (X₀ : K.In h₀) (I : InstAt s.heap x ox C od) (hs : findIn K (.ref C) "__bool__" = some (some (.ref f))) (hf : isFn K (.ref f) = true)
    (h : wpAny (model prog w) A.in1.in1 (call (.ref f) [.ref x]) (PySem.W.BoolBack fun b s' => Q (.bool b) s') E s) : wpAny (model prog w) A (call (.type "bool") [.ref x]) Q E s := by
  refine callType_newIn (S := fun A R s' => s' = s ∧ wpAny (model prog w) A.in1 (call (.ref f) [.ref x]) (PySem.W.BoolBack fun b s' => R (.ok (.ret (.bool b))) s') (fun e s' => R (.error e) s') s) PySem.F.called_bool PySem.F.newNe_bool (PySem.F.typeCall_bool_1 _) (PySem.F.newCall_bool_1 _)
    (fun obj => PySem.F.args_object_init_2 obj _) PySem.F.entry_bool_new ?_ ⟨rfl, ?_⟩
  · rintro A R s' ⟨rfl, hc⟩
    have tr : ∀ {Q' : Bool → Shared → Prop}, wpAny (model prog w) A.in1 (call (.ref f) [.ref x]) (PySem.W.BoolBack Q') (fun e s' => R (.error e) s') s' → wpAny (model prog w) A.in1 (truthy (.ref x)) Q' (fun e s' => R (.error e) s') s' := fun z => truthy_K F X₀ I hs hf z
    have f1 := PySem.F.conv_sub_bool
    refine wpAny_bind (m := isType _) (wpAny_pure ?_)
    dsimp only
    simp only [Bool.not_true, Bool.false_eq_true, if_false]
    refine wpAny_bind (wpAny_of_eq f1 ?_)
    simp only [Bool.not_true, Bool.false_eq_true, if_false]
    refine wpAny_bind (m := someArgs _ _ _ _) (wpAny_pure ?_)
    dsimp only
    refine wpAny_bind (tr (wpAny_mono hc (fun v s' hv => ?_) fun _ _ z => z))
    cases v <;> first | exact hv.elim | skip
    exact wpAny_pure hv
  · refine wpAny_mono h (fun v s' hv => ?_) fun _ _ z => z
    cases v <;> first | exact hv.elim | skip
    exact ⟨rfl, hv⟩
end
end PLow
namespace L2
open PySem PySem.Spec PyProof.Rows
section
variable {X : Cx} {CX : CXT} {k : Nat} {C f : Addr} {fd : FuncData} {ps : List Str} {sp : Sp} {E : XK} {op : CmpOp}
/-- an own comparison -/
structure OwnC (K : PySem.W.Frag) (C f : Addr) (op : CmpOp) : Prop where
  at_ : PySem.W.findIn K (.ref C) (cmpInfo op).2.1 = some (some (.ref f))
  fn : PySem.W.isFn K (.ref f) = true
  sub : PySem.W.subIn K (.type "int") (.ref C) = some false
theorem rich_own (O : OwnC X.K C f op) (F : FnOk X.prog X.w X.K X.mg X.base CX k f fd ps sp) (hr : Room k X.A) (hb : Binds X.K fd ps []) (hx : Passes CX X E) {pins : List (Addr × Obj)} {s : Shared} {σ : St} {H : Hp} {y : V} {u : Value} {Q : VK} {a dx : Addr} {fs : List (Str × V)}
    (I : Inv X pins σ H s) (ha : H a = some (.ins C dx fs)) (ry : RelV y u) (hy : (∃ i, y = .int i) ∨ ∃ b dy gs, y = .ref b ∧ H b = some (.ins C dy gs)) (q : sp [.ref a, y] H Q E) :
    wpAny (model X.prog X.w) X.A (richCompare op (.ref a) u) (EP X pins σ Q) X.xe s := by
  obtain ⟨mA, J, _⟩ := ins_get I.hok ha
  obtain ⟨od, J, _⟩ := J.look
  obtain ⟨m, hF⟩ := I.fr
  have fin : wpAny (model X.prog X.w) X.A (call (.ref f) [.ref a, u]) (PySem.W.CmpBack (EP X pins σ Q)) X.xe s :=
    wpAny_mono (run_fn (us := [.ref a, u]) (vs := [.ref a, y]) F hr hb .nil hx I (.cons rfl (.cons ry .nil)) q) (fun _ _ z => cmpBack_of z) fun _ _ z => z
  rcases hy with ⟨i, rfl⟩ | ⟨b, dy, gs, rfl, hb'⟩
  · obtain ⟨t, rfl⟩ := ry
    refine PySem.W.cmp_K (op := op) (tb := .type "int") hr.units0 hF I.ok.mod.kin J (PySem.W.Looks.of_pure rfl) ?_ O.at_ O.fn fin
    unfold PySem.W.notFirst
    rw [O.sub]
    simp
  · cases ry
    obtain ⟨mB, J', _⟩ := ins_get I.hok hb'
    obtain ⟨od', J', _⟩ := J'.look
    exact PySem.W.cmp_K (op := op) (tb := .ref C) hr.units0 hF I.ok.mod.kin J J'.type (by simp [PySem.W.notFirst]) O.at_ O.fn fin
def rOwnC (C : Addr) (sp : Sp) (E : XK) : R2 := fun x y H Q => ∃ a dx fs, x = .ref a ∧ H a = some (.ins C dx fs) ∧ ((∃ i, y = .int i) ∨ ∃ b dy gs, y = .ref b ∧ H b = some (.ins C dy gs)) ∧ sp [x, y] H Q E
theorem op_ownC (O : OwnC X.K C f op) (F : FnOk X.prog X.w X.K X.mg X.base CX k f fd ps sp) (hr : Room k X.A) (hb : Binds X.K fd ps []) (hx : Passes CX X E) (hc : ∀ v u, compareOp op v u = richCompare op v u := by intro _ _; rfl) : OpR X (compareOp op) (rOwnC C sp E) := by
  intro pins s σ H x y v u Q I rx ry h
  obtain ⟨a, dx, fs, rfl, ha, hy, q⟩ := h
  cases rx
  rw [hc]
  exact rich_own O F hr hb hx I ha ry hy q
/-- a call of a built-in class whose own method answers, two levels in -/
theorem run_in2 {pins : List (Addr × Obj)} {σ : St} {H : Hp} {s : Shared} {Q : VK} {a : Addr} (F : FnOk X.prog X.w X.K X.mg X.base CX k f fd ps sp) (hr : Room (k + 2) X.A) (hb : Binds X.K fd ps []) (hx : Passes CX X E) (I : Inv X pins σ H s) (q : sp [.ref a] H Q E) :
    wpAny (model X.prog X.w) X.A.in1.in1 (call (.ref f) [.ref a]) (EP X pins σ Q) X.xe s := by
  have hl := F.len _ _ _ _ q
  have r2 : Vals [V.ref a] [Value.ref a] := .cons rfl .nil
  refine wpAny_call (codeAny_mono (F.run X.A.in1.in1 X.stack s H ⟨[.ref a], []⟩ [.ref a] [.ref a] Q E hr.in1.in1 I.env0.in1.in1 (by
    have := hb s [.ref a] I.kIn (by simpa using hl)
    simpa using this) r2 q) fun r s' hq => ?_)
  cases r with
  | error e => exact hx pins σ H s e s' I hq
  | ok fl =>
    cases fl with
    | ret w => exact I.after hq
    | next => exact False.elim hq
    | brk => exact False.elim hq
    | cont => exact False.elim hq
/-- bool(x) -/
theorem call_boolOwn (hs : PySem.W.findIn X.K (.ref C) "__bool__" = some (some (.ref f))) (hf : PySem.W.isFn X.K (.ref f) = true) (F : FnOk X.prog X.w X.K X.mg X.base CX k f fd ps sp) (hr : Room (k + 2) X.A) (hb : Binds X.K fd ps []) (hx : Passes CX X E) :
    CallR X (.type "bool") (fun xs H Q => ∃ a dx fs, xs = [.ref a] ∧ H a = some (.ins C dx fs) ∧ sp [.ref a] H (fun v H' => ∃ b, v = .bl b ∧ Q (.bl b) H') E) := by
  intro pins s σ H xs us Q I r h
  obtain ⟨a, dx, fs, rfl, ha, q⟩ := h
  obtain ⟨u, rfl, ru⟩ := vals1 r
  cases ru
  obtain ⟨mA, J, _⟩ := ins_get I.hok ha
  obtain ⟨od, J, _⟩ := J.look
  obtain ⟨m, hF⟩ := I.fr
  refine PLow.bool_own hF I.ok.mod.kin J hs hf (wpAny_mono (run_in2 F hr hb hx I q) (fun u s' z => ?_) fun _ _ z => z)
  obtain ⟨v, H', I', rv, b, rfl, q'⟩ := z
  cases rv
  exact ⟨.bl b, H', I', rfl, q'⟩
/-- str(x) -/
theorem call_strOwn (hs : PySem.W.findIn X.K (.ref C) "__str__" = some (some (.ref f))) (hf : PySem.W.isFn X.K (.ref f) = true) (F : FnOk X.prog X.w X.K X.mg X.base CX k f fd ps sp) (hr : Room (k + 2) X.A) (hb : Binds X.K fd ps []) (hx : Passes CX X E) :
    CallR X (.type "str") (fun xs H Q => ∃ a dx fs, xs = [.ref a] ∧ H a = some (.ins C dx fs) ∧ sp [.ref a] H (fun v H' => ∃ b, v = .str b ∧ Q (.str b) H') E) := by
  intro pins s σ H xs us Q I r h
  obtain ⟨a, dx, fs, rfl, ha, q⟩ := h
  obtain ⟨u, rfl, ru⟩ := vals1 r
  cases ru
  obtain ⟨mA, J, _⟩ := ins_get I.hok ha
  obtain ⟨od, J, _⟩ := J.look
  have hu := hr.units
  refine PySem.W.kso_call (by show X.A.units + 1 + 1 < cLine; omega) I.kIn J hs hf (wpAny_mono (run_in2 F hr hb hx I q) (fun u s' z => ?_) fun _ _ z => z)
  obtain ⟨v, H', I', rv, b, rfl, q'⟩ := z
  obtain ⟨t, rfl⟩ := rv
  exact ⟨.str b, H', I', ⟨t, rfl⟩, q'⟩
end
end L2

set_option maxHeartbeats 2000000
/-! a written dict of ints -/
namespace L2
open PySem PySem.Spec PyProof.Rows
/-- the entries of {1: 1, 4: 2, 9: 3, 16: 4} -/
def esM (x1 x2 x3 x4 y1 y2 y3 y4 : Tok) : Array DictEntry := #[⟨1, .int 1 x1, .int 1 y1⟩, ⟨4, .int 4 x2, .int 2 y2⟩, ⟨9, .int 9 x3, .int 3 y3⟩, ⟨16, .int 16 x4, .int 4 y4⟩]
structure KMarks (K : PySem.W.Frag) (d : Addr) : Prop where
  at_ : ∃ x1 x2 x3 x4 y1 y2 y3 y4 n, K.lookup d = some ⟨.type "dict", none, .dict (esM x1 x2 x3 x4 y1 y2 y3 y4) n, #[]⟩
  low : (d == sysModules) = false
/-- 1, 4, 9, 16 by their roots -/
inductive Root : Int → Int → Prop where
  | r1 : Root 1 1
  | r2 : Root 4 2
  | r3 : Root 9 3
  | r4 : Root 16 4
theorem root_find {k v : Int} (r : Root k v) (x1 x2 x3 x4 y1 y2 y3 y4 : Tok) : ∃ t, findBy Value.isInt (esM x1 x2 x3 x4 y1 y2 y3 y4) k = some (.int v t) := by
  cases r
  · exact ⟨y1, rfl⟩
  · exact ⟨y2, rfl⟩
  · exact ⟨y3, rfl⟩
  · exact ⟨y4, rfl⟩
section
variable {X : Cx} {d : Addr}
theorem KMarks.map (D : KMarks X.K d) {pins : List (Addr × Obj)} {σ : St} {H : Hp} {s : Shared} (I : Inv X pins σ H s) : ∃ x1 x2 x3 x4 y1 y2 y3 y4, s.heap.MapOf (PySem.intKind X.prog X.w) d (fun k => findBy Value.isInt (esM x1 x2 x3 x4 y1 y2 y3 y4) k) := by
  obtain ⟨x1, x2, x3, x4, y1, y2, y3, y4, n, e⟩ := D.at_
  refine ⟨x1, x2, x3, x4, y1, y2, y3, y4, _, _, n, I.kIn _ _ e, ⟨rfl, rfl, rfl⟩, rfl, ?_, fun _ => rfl⟩
  intro en hen
  have hm : en ∈ (esM x1 x2 x3 x4 y1 y2 y3 y4).toList := Array.mem_toList_iff.mpr hen
  rcases List.mem_cons.mp hm with rfl | hm
  · exact ⟨1, by simp [PySem.intKind, Value.isInt], (by show (1 : Int) = hashInt 1; decide +kernel)⟩
  rcases List.mem_cons.mp hm with rfl | hm
  · exact ⟨4, by simp [PySem.intKind, Value.isInt], (by show (4 : Int) = hashInt 4; decide +kernel)⟩
  rcases List.mem_cons.mp hm with rfl | hm
  · exact ⟨9, by simp [PySem.intKind, Value.isInt], (by show (9 : Int) = hashInt 9; decide +kernel)⟩
  rcases List.mem_cons.mp hm with rfl | hm
  · exact ⟨16, by simp [PySem.intKind, Value.isInt], (by show (16 : Int) = hashInt 16; decide +kernel)⟩
  cases hm
theorem op_notIn_km (D : KMarks X.K d) : OpR X (compareOp .NotIn) (fun x y H Q => ∃ k v, x = .int k ∧ y = .ref d ∧ Root k v ∧ Q (.bl false) H) := by
  intro pins s σ H x y v u Q I rx ry h
  obtain ⟨k, r, rfl, rfl, hr, q⟩ := h
  obtain ⟨t, rfl⟩ := rx
  cases ry
  obtain ⟨x1, x2, x3, x4, y1, y2, y3, y4, hm⟩ := D.map I
  obtain ⟨tk, ef⟩ := root_find hr x1 x2 x3 x4 y1 y2 y3 y4
  refine wpAny_notIn_of (k := k) (by simp [PySem.intKind, Value.isInt]) D.low hm ?_
  rw [ef]
  exact ⟨.bl false, H, I.tok _, rfl, q⟩
theorem ix_km (D : KMarks X.K d) : IxR X (fun x y H Q => ∃ k v, x = .ref d ∧ y = .int k ∧ Root k v ∧ Q (.int v) H) := by
  intro value slice pins s σ H x y v u Q I rx ry h hs
  obtain ⟨k, r, rfl, rfl, hr, q⟩ := h
  obtain rfl : v = Value.ref d := rx
  obtain ⟨t, rfl⟩ := ry
  obtain ⟨x1, x2, x3, x4, y1, y2, y3, y4, hm⟩ := D.map I
  obtain ⟨tk, ef⟩ := root_find hr x1 x2 x3 x4 y1 y2 y3 y4
  exact tail_any hm.typeIs slot_dict_getitem.lookup (wpAny_getItem_of (k := k) (by simp [PySem.intKind, Value.isInt]) hm ef ⟨.int r, H, I.tok _, ⟨tk, rfl⟩, q⟩) hs
end
/-! len(x) by the own method -/
section
variable {X : Cx} {CX : CXT} {k : Nat} {C f : Addr} {fd : FuncData} {ps : List Str} {sp : Sp} {E : XK}
theorem call_lenOwn (hs : PySem.W.findIn X.K (.ref C) "__len__" = some (some (.ref f))) (hf : PySem.W.isFn X.K (.ref f) = true) (F : FnOk X.prog X.w X.K X.mg X.base CX k f fd ps sp) (hr : Room (k + 1) X.A) (hb : Binds X.K fd ps []) (hx : Passes CX X E) :
    CallR X (.builtin "len") (fun xs H Q => ∃ a dx fs, xs = [.ref a] ∧ H a = some (.ins C dx fs) ∧ sp [.ref a] H (fun v H' => ∃ n : Nat, v = .int n ∧ n ≤ 1000 ∧ Q (.int n) H') E) := by
  intro pins s σ H xs us Q I r h
  obtain ⟨a, dx, fs, rfl, ha, q⟩ := h
  obtain ⟨u, rfl, ru⟩ := vals1 r
  cases ru
  obtain ⟨mA, J, _⟩ := ins_get I.hok ha
  obtain ⟨od, J, _⟩ := J.look
  obtain ⟨m, hF⟩ := I.fr
  refine PySem.W.len_K hF I.ok.mod.kin J hs hf ?_
  have hl := F.len _ _ _ _ q
  have r2 : Vals [V.ref a] [Value.ref a] := .cons rfl .nil
  refine wpAny_call (codeAny_mono (F.run X.A.in1 X.stack s H ⟨[.ref a], []⟩ [.ref a] [.ref a] _ E hr.in1 I.env0.in1 (by
    have := hb s [.ref a] I.kIn (by simpa using hl)
    simpa using this) r2 q) fun r s' hq => ?_)
  cases r with
  | error e => exact hx pins σ H s e s' I hq
  | ok fl =>
    cases fl with
    | ret w =>
      obtain ⟨v, H', I', rv, n, rfl, hn, q'⟩ := I.after hq
      obtain ⟨t, rfl⟩ := rv
      exact ⟨⟨by omega, by omega⟩, .int n, H', I'.tok _, ⟨_, rfl⟩, q'⟩
    | next => exact False.elim hq
    | brk => exact False.elim hq
    | cont => exact False.elim hq
end
end L2

set_option maxHeartbeats 4000000
namespace PA
open PySem L2 RZ
open C8 (pss_cut tCut)
def top (i : Nat) : Stmt := PySem.Challenge.pw_pairahead_k06_rule_texts.main.body.getD i (.Pass ⟨0, 0, 0, 0⟩)
abbrev sIsInt : Stmt := top 7
abbrev sBelow : Stmt := top 8
abbrev sInit : Stmt := inClass (top 30) 0
abbrev sStep : Stmt := inClass (top 30) 2
abbrev sLen : Stmt := inClass (top 30) 4
abbrev sCheck : Stmt := top 32
abbrev sIsRow : Stmt := top 33
/-! ### data -/
abbrev Rw := Int × Bool × Int × Bool
def rv (r : Rw) : List V := [.int r.1, .bl r.2.1, .int r.2.2.1, .bl r.2.2.2]
def RwOk (n : Nat) (r : Rw) : Prop := (0 ≤ r.1 ∧ r.1 < n) ∧ 0 ≤ r.2.2.1 ∧ r.2.2.1 < n
/-- what stands at each place of a list of references -/
def Each (H : Hp) (P : Hp → Addr → Rw → Prop) (xs : List V) (rows : List Rw) : Prop := xs.length = rows.length ∧ ∀ (i : Nat) (x : V) (r : Rw), xs[i]? = some x → rows[i]? = some r → ∃ c, x = .ref c ∧ P H c r
def isT (H : Hp) (c : Addr) (r : Rw) : Prop := H c = some (.tup (rv r))
def isLT (H : Hp) (c : Addr) (r : Rw) : Prop := H c = some (.tup (rv r)) ∨ H c = some (.lst (rv r))
theorem Each.imp {H H' : Hp} {P P' : Hp → Addr → Rw → Prop} {xs : List V} {rows : List Rw} (e : Each H P xs rows) (f : ∀ c r, P H c r → P' H' c r) : Each H' P' xs rows := ⟨e.1, fun i x r h1 h2 => let ⟨c, hx, q⟩ := e.2 i x r h1 h2; ⟨c, hx, f c r q⟩⟩
theorem Each.sameT {H H' : Hp} {xs : List V} {rows : List Rw} (e : Each H isT xs rows) (s : Same H H') : Each H' isT xs rows := e.imp fun c r q => s _ _ q
theorem Each.sameLT {H H' : Hp} {xs : List V} {rows : List Rw} (e : Each H isLT xs rows) (s : Same H H') : Each H' isLT xs rows := e.imp fun c r q => q.elim (fun q => .inl (s _ _ q)) fun q => .inr (s _ _ q)
theorem Each.nil {H : Hp} {P : Hp → Addr → Rw → Prop} : Each H P [] [] := ⟨rfl, fun i x r h _ => by simp at h⟩
theorem Each.push {H : Hp} {P : Hp → Addr → Rw → Prop} {xs : List V} {rows : List Rw} {c : Addr} {r : Rw} (e : Each H P xs rows) (q : P H c r) : Each H P (xs ++ [.ref c]) (rows ++ [r]) := by
  refine ⟨by rw [List.length_append, List.length_append, e.1]; rfl, fun i x r' h1 h2 => ?_⟩
  rcases Nat.lt_or_ge i xs.length with hi | hi
  · rw [List.getElem?_append_left hi] at h1
    rw [List.getElem?_append_left (by rw [← e.1]; exact hi)] at h2
    exact e.2 i x r' h1 h2
  · rw [List.getElem?_append_right hi] at h1
    rw [List.getElem?_append_right (by rw [← e.1]; exact hi), ← e.1] at h2
    cases hk : i - xs.length with
    | zero =>
      rw [hk] at h1 h2
      have h1' : V.ref c = x := by simpa using h1
      have h2' : r = r' := by simpa using h2
      exact ⟨c, h1'.symm, h2' ▸ q⟩
    | succ k =>
      rw [hk] at h1
      simp at h1
/-- a list is changed: tuples stay -/
theorem isT.lst {H : Hp} {c D : Addr} {r : Rw} {xs ys : List V} (q : isT H c r) (hD : H D = some (.lst xs)) : isT (upd H D (.lst ys)) c r := by
  unfold isT
  rw [upd_ne (ne_of (H := H) q hD (by intro z; cases z))]
  exact q
theorem take_succ' {α : Type} {l : List α} {i : Nat} {x : α} (h : l[i]? = some x) : l.take (i + 1) = l.take i ++ [x] := by
  rw [List.take_add_one, h]
  rfl
def rf (R S : Addr) (k : Int) : List (Str × V) := putF "marks" (.int k) (putF "starts" (.ref S) (putF "rows" (.ref R) []))
theorem rs_ : ¬ (("rows" : Str) = "starts") := by decide +kernel
theorem rm_ : ¬ (("rows" : Str) = "marks") := by decide +kernel
theorem sm_ : ¬ (("starts" : Str) = "marks") := by decide +kernel
theorem rf_rows (R S : Addr) (k : Int) : (rf R S k).lookup ("rows" : Str) = some (.ref R) := by
  unfold rf
  rw [lookup_putF, if_neg rm_, lookup_putF, if_neg rs_, lookup_putF, if_pos rfl]
theorem rf_starts (R S : Addr) (k : Int) : (rf R S k).lookup ("starts" : Str) = some (.ref S) := by
  unfold rf
  rw [lookup_putF, if_neg sm_, lookup_putF, if_pos rfl]
theorem rf_marks (R S : Addr) (k : Int) : (rf R S k).lookup ("marks" : Str) = some (.int k) := by
  unfold rf
  rw [lookup_putF, if_pos rfl]
theorem rf_no (R S : Addr) (k : Int) {m : Str} (h1 : ¬ m = "marks") (h2 : ¬ m = "starts") (h3 : ¬ m = "rows") : (rf R S k).lookup m = none := by
  unfold rf
  rw [lookup_putF, if_neg h1, lookup_putF, if_neg h2, lookup_putF, if_neg h3]
  all_goals rfl
/-- a Rule stands at p -/
def RuleAt (K : PySem.W.Frag) (C : Addr) (H : Hp) (p : Addr) (rows : List Rw) (starts : List Int) (k : Int) : Prop := ∃ dx R S refs, H p = some (.ins C dx (rf R S k)) ∧ H R = some (.tup refs) ∧ Each H isT refs rows ∧ SqT K H S (starts.map V.int)
theorem SqT.up {K : PySem.W.Frag} {H H' : Hp} {a : Addr} {xs : List V} (h : SqT K H a xs) (e : Same H H') : SqT K H' a xs :=
  h.elim (fun h => .inl (h.elim (fun h => .inl (e _ _ h)) fun ⟨o, h⟩ => .inr ⟨o, e _ _ h⟩)) fun h => .inr h
theorem RuleAt.same {K : PySem.W.Frag} {C : Addr} {H H' : Hp} {p : Addr} {rows : List Rw} {starts : List Int} {k : Int} (r : RuleAt K C H p rows starts k) (s : Same H H') : RuleAt K C H' p rows starts k := by
  obtain ⟨dx, R, S, refs, h1, h2, h3, h4⟩ := r
  exact ⟨dx, R, S, refs, s _ _ h1, s _ _ h2, h3.sameT s, SqT.up h4 s⟩
structure Txt (K : PySem.W.Frag) (mg : Str → Option Value) (C : Addr) : Prop where
  cl : Cls K C
  nR : NoAttr K C "rows"
  nS : NoAttr K C "starts"
  nM : NoAttr K C "marks"
  mgC : mg "Rule" = some (.ref C)
  isi : mg "isinstance" = none
  int_ : mg "int" = none
  bool_ : mg "bool" = none
  list_ : mg "list" = none
  tup_ : mg "tuple" = none
  len_ : mg "len" = none
  all_ : mg "all" = none
  zip_ : mg "zip" = none
  range_ : mg "range" = none
  most : ∃ t, mg "MOST_ROWS" = some (.int 48 t)
  marks : ∃ d, mg "MARKS_OF_STARTS" = some (.ref d) ∧ KMarks K d
theorem boot_isi : bootBuiltins "isinstance" = some (.builtin "isinstance") := by decide +kernel
theorem boot_int' : bootBuiltins "int" = some (.type "int") := by decide +kernel
theorem boot_bool' : bootBuiltins "bool" = some (.type "bool") := by decide +kernel
theorem boot_tuple' : bootBuiltins "tuple" = some (.type "tuple") := by decide +kernel
theorem boot_list' : bootBuiltins "list" = some (.type "list") := by decide +kernel
theorem boot_all' : bootBuiltins "all" = some (.builtin "all") := by decide +kernel
structure Df (K : PySem.W.Frag) (mg : Str → Option Value) (x : Str) (st : Stmt) (f : Addr) (fd : FuncData) (ps : List Str) : Prop where
  F : Fun K x x st f fd
  B : Binds K fd ps []
  M : mg x = some (.ref f)
/-! ### promises -/
def spIsInt : Sp := fun vs H Q _ => ∃ i, vs = [.int i] ∧ Q (.bl true) H
def spBelow : Sp := fun vs H Q _ => ∃ v c : Int, vs = [.int v, .int c] ∧ 0 ≤ v ∧ v < c ∧ Q (.bl true) H
def spIsRow : Sp := fun vs H Q _ => ∃ (p : Addr) (r : Rw) (n : Nat), vs = [.ref p, .int (n : Int)] ∧ isT H p r ∧ RwOk n r ∧ Q (.bl true) H
def spCheck (K : PySem.W.Frag) : Sp := fun vs H Q _ => ∃ (R S : Addr) (refs : List V) (rows : List Rw) (starts : List Int) (k : Int), vs = [.ref R, .ref S] ∧ H R = some (.tup refs) ∧ Each H isT refs rows ∧ SqT K H S (starts.map V.int) ∧
  1 ≤ rows.length ∧ rows.length ≤ 48 ∧ (∀ r ∈ rows, RwOk rows.length r) ∧ Root (starts.length : Int) k ∧ (∀ s ∈ starts, 0 ≤ s ∧ s < (rows.length : Int)) ∧ ∀ H', Same H H' → Q .non H'
section
variable {P : Program} {w : World} {K : PySem.W.Frag} {mg : Str → Option Value} {base : Heap} {C : Addr}
theorem ifD_no {p A B : Prop} [Decidable p] (h : ¬ p) (q : B) : if decide p = true then A else B := by
  rw [decide_eq_false h]
  exact iteF q
theorem ifD_yes {p A B : Prop} [Decidable p] (h : p) (q : A) : if decide p = true then A else B := by
  rw [decide_eq_true h]
  exact iteT q
theorem ifD_2 {p A B : Prop} [Decidable p] (h1 : p → A) (h2 : ¬ p → B) : if decide p = true then A else B := by
  by_cases h : p
  · exact ifD_yes h (h1 h)
  · exact ifD_no h (h2 h)
theorem Same.new {H : Hp} {p : Addr} {o : HO} (hp : H p = none) : Same H (upd H p o) := fun b u e => by
  rw [upd_ne (ne_of_none e hp)]
  exact e
theorem scIsInt : FnScope ["value"] ["value"] (defScope sIsInt) := ⟨rfl, rfl, rfl, by decide +kernel, rfl, by decide +kernel, by decide +kernel⟩
theorem ok_isInt {f : Addr} {fd : FuncData} (F : Fun K "is_integer" "is_integer" sIsInt f fd) (T : Txt K mg C) : FnOk P w K mg base CX0 1 f fd ["value"] spIsInt := by
  refine F.ok scIsInt (fun vs H Q E h => ?_) (fun cdv A outer s H vs Q E hr h => ?_)
  · obtain ⟨i, rfl, _⟩ := h
    rfl
  · obtain ⟨i, rfl, k⟩ := h
    refine ⟨_, pss_one (ps_ret (pe_and (pe_callB call_isi (by rfl) T.isi boot_isi (pa_cons (pv 0) (pa_cons (pe_bltn (v := .ty "int") (by rfl) T.int_ boot_int' rfl) pa_nil)))
      (pe_one (pe_not (pe_callB call_isi (by rfl) T.isi boot_isi (pa_cons (pv 0) (pa_cons (pe_bltn (v := .ty "bool") (by rfl) T.bool_ boot_bool' rfl) pa_nil))))))), ?_⟩
    refine ⟨_, rfl, _, _, _, _, _, rfl, .ty _, .base (.int i), kit_ty (b := "int") (r := true) (by decide +kernel), _, rfl, iteT ?_⟩
    exact ⟨_, rfl, _, _, _, _, _, rfl, .ty _, .base (.int i), kit_ty (b := "bool") (r := false) (by decide +kernel), _, rfl, k⟩
theorem scBelow : FnScope ["value", "count"] ["value", "count"] (defScope sBelow) := ⟨rfl, rfl, rfl, by decide +kernel, rfl, by decide +kernel, by decide +kernel⟩
theorem ok_below {f g : Addr} {fd gd : FuncData} (F : Fun K "is_below" "is_below" sBelow f fd) (T : Txt K mg C) (D : Df K mg "is_integer" sIsInt g gd ["value"]) : FnOk P w K mg base CX0 2 f fd ["value", "count"] spBelow := by
  have G : FnOk P w K mg base CX0 1 g gd ["value"] spIsInt := ok_isInt D.F T
  refine F.ok scBelow (fun vs H Q E h => ?_) (fun cdv A outer s H vs Q E hr h => ?_)
  · obtain ⟨v, c, rfl, _⟩ := h
    rfl
  · obtain ⟨v, c, rfl, h0, h1, k⟩ := h
    refine ⟨_, pss_one (ps_ret (pe_and (pe_call G hr rfl D.M D.F.kp D.B .nil pass0 (pa_cons (pv 0) pa_nil)) (pe_one (pe_chain op_le op_lt pe_int (pv 0) (pv 1))))), ?_⟩
    refine ⟨_, rfl, v, rfl, _, rfl, iteT ?_⟩
    refine ⟨_, rfl, _, _, rfl, rfl, _, rfl, ifD_yes h0 ⟨_, rfl, _, _, rfl, rfl, ?_⟩⟩
    show Q (V.bl (decide (v < c))) H
    rw [decide_eq_true h1]
    exact k
theorem scIsRow : FnScope ["row", "count", "next_ahead", "falls", "next_behind", "goes"] ["row", "count"] (defScope sIsRow) := ⟨rfl, rfl, rfl, by decide +kernel, rfl, by decide +kernel, by decide +kernel⟩
theorem ok_isRow {f g1 g2 : Addr} {fd gd1 gd2 : FuncData} (F : Fun K "_is_row" "_is_row" sIsRow f fd) (T : Txt K mg C) (D1 : Df K mg "is_integer" sIsInt g1 gd1 ["value"]) (D2 : Df K mg "is_below" sBelow g2 gd2 ["value", "count"]) : FnOk P w K mg base CX0 3 f fd ["row", "count"] spIsRow := by
  have G : FnOk P w K mg base CX0 2 g2 gd2 ["value", "count"] spBelow := ok_below D2.F T D1
  refine F.ok scIsRow (fun vs H Q E h => ?_) (fun cdv A outer s H vs Q E hr h => ?_)
  · obtain ⟨p, r, n, rfl, _⟩ := h
    rfl
  · obtain ⟨p, ⟨a, fl, b, go⟩, n, rfl, hp, ⟨⟨a0, a1⟩, b0, b1⟩, k⟩ := h
    refine ⟨_, pss_cons (ps_if (pt_cmpR op_ne (pe_callB call_len_seq (by rfl) T.len_ PySem.boot_len (pa_cons (pv 0) pa_nil)) pe_int (nomark _)) pss_never pss_nil)
      (pss_cons (ps_asg (pv 0) (pg_tup rfl (pgs_cons (pg_name (i := 2) scIsRow.nd rfl (Or.inl rfl)) (pgs_cons (pg_name (i := 3) scIsRow.nd rfl (Or.inl rfl)) (pgs_cons (pg_name (i := 4) scIsRow.nd rfl (Or.inl rfl)) (pgs_cons (pg_name (i := 5) scIsRow.nd rfl (Or.inl rfl)) pgs_nil))))))
      (pss_cons (ps_if (PW.pt (pw_or (pt_not (pt_val (pe_call G hr rfl D2.M D2.F.kp D2.B .nil pass0 (pa_cons (pv 2) (pa_cons (pv 1) pa_nil))))) (pw_or1 (pt_not (pt_val (pe_call G hr rfl D2.M D2.F.kp D2.B .nil pass0 (pa_cons (pv 4) (pa_cons (pv 1) pa_nil)))))))) pss_never pss_nil)
      (pss_one (ps_ret (pe_and (pe_callB call_isi (by rfl) T.isi boot_isi (pa_cons (pv 3) (pa_cons (pe_bltn (v := .ty "bool") (by rfl) T.bool_ boot_bool' rfl) pa_nil))) (pe_one (pe_callB call_isi (by rfl) T.isi boot_isi (pa_cons (pv 5) (pa_cons (pe_bltn (v := .ty "bool") (by rfl) T.bool_ boot_bool' rfl) pa_nil))))))))), ?_⟩
    refine ⟨_, rfl, p, _, rfl, .inr (SqT.of hp), rfl, _, rfl, iteNS rfl ?_⟩
    refine ⟨_, rfl, p, _, rfl, SqT.of hp, rfl, _, _, rfl, _, _, rfl, _, _, rfl, _, _, rfl, rfl, ?_⟩
    refine ⟨_, rfl, _, rfl, a, _, rfl, a0, a1, _, rfl, iteF ?_⟩
    refine ⟨_, rfl, _, rfl, b, _, rfl, b0, b1, _, rfl, iteF ?_⟩
    refine ⟨_, rfl, _, _, _, _, _, rfl, .ty _, .base (.bl fl), kit_ty (b := "bool") (r := true) (by decide +kernel), _, rfl, iteT ?_⟩
    exact ⟨_, rfl, _, _, _, _, _, rfl, .ty _, .base (.bl go), kit_ty (b := "bool") (r := true) (by decide +kernel), k⟩
end
end PA

set_option maxHeartbeats 4000000
namespace PA
open PySem L2 RZ
open C8 (pss_cut tCut)
/-- the list of what was made so far: all true -/
theorem all_true (n : Nat) : (List.replicate n true).all id = true := by
  rw [List.all_eq_true]
  intro x hx
  rw [(List.mem_replicate.mp hx).2]
  rfl
def rLenK (K : PySem.W.Frag) : List V → Hp → (V → Hp → Prop) → Prop := fun xs H Q => ∃ p ys, xs = [.ref p] ∧ (SqL K H p ys ∨ SqT K H p ys) ∧ Q (.int ys.length) H
theorem call_lenK {X : Cx} {K : PySem.W.Frag} (h : X.K = K) : CallR X (.builtin "len") (rLenK K) := h ▸ call_len_seq
theorem root_le {n k : Int} (r : Root n k) : n ≤ 16 := by
  cases r <;> decide
section
variable {P : Program} {w : World} {K : PySem.W.Frag} {mg : Str → Option Value} {base : Heap} {C : Addr}
theorem scCheck : FnScope ["rows", "starts", "row", "state"] ["rows", "starts"] (defScope sCheck) := ⟨rfl, rfl, rfl, by decide +kernel, rfl, by decide +kernel, by decide +kernel⟩
theorem ok_check {f g1 g2 g3 : Addr} {fd gd1 gd2 gd3 : FuncData} (F : Fun K "_check_table" "_check_table" sCheck f fd) (T : Txt K mg C) (D1 : Df K mg "is_integer" sIsInt g1 gd1 ["value"]) (D2 : Df K mg "is_below" sBelow g2 gd2 ["value", "count"]) (D3 : Df K mg "_is_row" sIsRow g3 gd3 ["row", "count"]) : FnOk P w K mg base CX0 4 f fd ["rows", "starts"] (spCheck K) := by
  have G2 : FnOk P w K mg base CX0 3 g2 gd2 ["value", "count"] spBelow := (ok_below D2.F T D1).mono (by decide)
  have G3 : FnOk P w K mg base CX0 3 g3 gd3 ["row", "count"] spIsRow := ok_isRow D3.F T D1 D2
  obtain ⟨tm, hmost⟩ := T.most
  obtain ⟨dm, hdm, km⟩ := T.marks
  refine F.ok scCheck (fun vs H Q E h => ?_) (fun cdv A outer s H vs Q E hr h => ?_)
  · obtain ⟨R, S, _, _, _, _, rfl, _⟩ := h
    rfl
  · obtain ⟨R, S, refs, rows, starts, k, rfl, hR, hE, hS, h1, h48, hok, hroot, hst, kk⟩ := h
    refine ⟨_, pss_cons (ps_if (pt_not (pt_chain op_le op_le pe_int (pe_callB call_len_seq (by rfl) T.len_ PySem.boot_len (pa_cons (pv 0) pa_nil)) (pe_glob (v := .int 48) rfl hmost ⟨_, rfl⟩))) pss_never pss_nil)
      (pss_cons (ps_if (pt_not (pt_val (pe_callB (cr_all rfl) (by rfl) T.all_ boot_all' (pa_cons (pe_lc (own := [("row", 2)]) (g := gName 2) (tt := tYes) (by rfl) scCheck.nd (pi_tup (pv 0)) (blkOk_by (N := ["rows", "starts", "row", "state"]) (sc := defScope sCheck) (by decide +kernel))
          (fun _ _ _ _ _ => pg_name (i := 2) scCheck.nd rfl (Or.inl rfl)) (fun _ _ _ _ _ => pts_nil)
          (fun _ _ _ _ _ => pe_call G3 hr rfl D3.M D3.F.kp D3.B .nil pass0 (pa_cons (pv 2) (pa_cons (pe_callB (call_lenK (K := K) rfl) (by rfl) T.len_ PySem.boot_len (pa_cons (pv 0) pa_nil)) pa_nil)))) pa_nil)))) pss_never pss_nil)
      (pss_cons (ps_if (pt_cmpR (op_notIn_km km) (pe_callB call_len_seq (by rfl) T.len_ PySem.boot_len (pa_cons (pv 1) pa_nil)) (pe_glob (v := .ref dm) rfl hdm rfl) rfl) pss_never pss_nil)
      (pss_one (ps_if (pt_not (pt_val (pe_callB (cr_all rfl) (by rfl) T.all_ boot_all' (pa_cons (pe_lc (own := [("state", 3)]) (g := gName 3) (tt := tYes) (by rfl) scCheck.nd (pi_tup (pv 1)) (blkOk_by (N := ["rows", "starts", "row", "state"]) (sc := defScope sCheck) (by decide +kernel))
          (fun _ _ _ _ _ => pg_name (i := 3) scCheck.nd rfl (Or.inl rfl)) (fun _ _ _ _ _ => pts_nil)
          (fun _ _ _ _ _ => pe_call G2 hr rfl D2.M D2.F.kp D2.B .nil pass0 (pa_cons (pv 3) (pa_cons (pe_callB (call_lenK (K := K) rfl) (by rfl) T.len_ PySem.boot_len (pa_cons (pv 0) pa_nil)) pa_nil)))) pa_nil)))) pss_never pss_nil)))), ?_⟩
    have hlr : refs.length = rows.length := hE.1
    refine ⟨_, rfl, ?_⟩
    refine ⟨R, _, rfl, .inr (SqT.of hR), _, _, rfl, rfl, _, rfl, ifD_yes (by rw [hlr]; omega) ?_⟩
    refine ⟨_, _, rfl, rfl, _, rfl, ?_⟩
    rw [hlr]
    have h48' : ((rows.length : Int) ≤ 48) := by omega
    rw [decide_eq_true h48']
    refine iteF ?_
    refine ⟨_, rfl, R, rfl, ⟨_, SqT.of hR⟩, fun Dd hD => ?_⟩
    refine lc_tup (K := K) (a := R) (xs := refs) (fun i H' => Same H H' ∧ H' Dd = some (.lst ((List.replicate i true).map V.bl))) ⟨Same.new hD, upd_same⟩ (fun i H' _ q => SqT.of (q.1 _ _ hR)) ?_ ?_
    · rintro i x H' hx ⟨sm, hd⟩
      have hi : i < rows.length := by rw [← hlr]; exact (List.getElem?_eq_some_iff.mp hx).1
      have hr' : rows[i]? = some rows[i] := List.getElem?_eq_getElem hi
      obtain ⟨c, rfl, hc⟩ := hE.2 i x _ hx hr'
      refine ⟨rfl, ?_⟩
      dsimp only [tYes]
      rw [if_pos rfl]
      refine ⟨_, rfl, _, rfl, R, _, rfl, .inr (SqT.of (sm _ _ hR)), c, rows[i], rows.length, congrArg (fun z : Nat => [V.ref c, V.int (z : Int)]) hlr, sm _ _ hc, hok _ (List.getElem_mem hi), ?_⟩
      refine ⟨_, hd, ?_, ?_, ?_⟩
      · rw [List.length_map, List.length_replicate]
        exact Nat.lt_of_lt_of_le hi (Nat.le_trans h48 (by decide))
      · intro c o e
        rw [upd_ne (ne_of_none e hD)]
        exact sm _ _ e
      · rw [upd_same, List.replicate_succ', List.map_append]
        rfl
    rintro H1 ⟨s1, hd1⟩
    refine ⟨Dd, _, rfl, SqL.of hd1, ?_⟩
    rw [all_true]
    refine ⟨true, rfl, iteF ?_⟩
    have hS1 := SqT.up hS s1
    refine ⟨_, rfl, S, _, rfl, .inr hS1, (starts.length : Int), k, ?_, rfl, hroot, _, rfl, iteF ?_⟩
    · show V.int (((starts.map V.int).length : Nat) : Int) = _
      rw [List.length_map]
    refine ⟨_, rfl, S, rfl, ⟨_, hS1⟩, fun De hE' => ?_⟩
    refine lc_tup (K := K) (a := S) (xs := starts.map V.int) (fun i H' => Same H1 H' ∧ H' De = some (.lst ((List.replicate i true).map V.bl))) ⟨Same.new hE', upd_same⟩ (fun i H' _ q => SqT.up hS1 q.1) ?_ ?_
    · rintro i x H' hx ⟨sm, hd⟩
      rw [List.getElem?_map, Option.map_eq_some_iff] at hx
      obtain ⟨z, hz, rfl⟩ := hx
      have hz' := hst z (List.mem_of_getElem? hz)
      refine ⟨rfl, ?_⟩
      dsimp only [tYes]
      rw [if_pos rfl]
      refine ⟨_, rfl, _, rfl, R, _, rfl, .inr (SqT.of (sm _ _ (s1 _ _ hR))), z, (rows.length : Int), congrArg (fun y : Nat => [V.int z, V.int (y : Int)]) hlr, hz'.1, hz'.2, ?_⟩
      refine ⟨_, hd, ?_, ?_, ?_⟩
      · rw [List.length_map, List.length_replicate]
        have : starts.length ≤ 16 := by
          have := root_le hroot
          omega
        have hi := (List.getElem?_eq_some_iff.mp hz).1
        exact Nat.lt_of_lt_of_le (Nat.lt_of_lt_of_le hi this) (by decide)
      · intro c o e
        rw [upd_ne (ne_of_none e hE')]
        exact sm _ _ e
      · rw [upd_same, List.replicate_succ', List.map_append]
        rfl
    rintro H2 ⟨s2, hd2⟩
    refine ⟨De, _, rfl, SqL.of hd2, ?_⟩
    rw [all_true]
    refine ⟨true, rfl, iteF ?_⟩
    exact kk _ (s1.trans s2)
end
end PA

set_option maxHeartbeats 4000000

namespace PA
open PySem L2 RZ
open C8 (pss_cut tCut)
/-- a list or a tuple -/
def Sq (K : PySem.W.Frag) (H : Hp) (a : Addr) (xs : List V) : Prop := SqL K H a xs ∨ SqT K H a xs
theorem SqL.up {K : PySem.W.Frag} {H H' : Hp} {a : Addr} {xs : List V} (h : SqL K H a xs) (e : Same H H') : SqL K H' a xs :=
  h.elim (fun h => .inl (h.elim (fun h => .inl (e _ _ h)) fun ⟨o, h⟩ => .inr ⟨o, e _ _ h⟩)) fun h => .inr h
theorem Sq.up {K : PySem.W.Frag} {H H' : Hp} {a : Addr} {xs : List V} (h : Sq K H a xs) (e : Same H H') : Sq K H' a xs := h.imp (fun h => SqL.up h e) fun h => SqT.up h e
theorem isLT.sq {K : PySem.W.Frag} {H : Hp} {c : Addr} {r : Rw} (h : isLT H c r) : Sq K H c (rv r) := h.elim (fun h => .inr (SqT.of h)) fun h => .inl (SqL.of h)
theorem isT.ins {H : Hp} {c p C dx : Addr} {fs : List (Str × V)} {o : HO} {r : Rw} (q : isT H c r) (hp : H p = some (.ins C dx fs)) : isT (upd H p o) c r := by
  unfold isT
  rw [upd_ne (ne_of (H := H) q hp (by intro z; cases z))]
  exact q
theorem SqT.keep {K : PySem.W.Frag} {H H' : Hp} {a p C dx : Addr} {fs : List (Str × V)} {xs : List V} (h : SqT K H a xs) (hp : H p = some (.ins C dx fs)) (kp : ∀ c o, H c = some o → c ≠ p → H' c = some o) : SqT K H' a xs := by
  rcases h with (h | ⟨ob, h⟩) | h
  · exact .inl (.inl (kp _ _ h (ne_of h hp (by intro z; cases z))))
  · exact .inl (.inr ⟨ob, kp _ _ h (ne_of h hp (by intro z; cases z))⟩)
  · exact .inr h
theorem SqL.keep {K : PySem.W.Frag} {H H' : Hp} {a p C dx : Addr} {fs : List (Str × V)} {xs : List V} (h : SqL K H a xs) (hp : H p = some (.ins C dx fs)) (kp : ∀ c o, H c = some o → c ≠ p → H' c = some o) : SqL K H' a xs := by
  rcases h with (h | ⟨ob, h⟩) | h
  · exact .inl (.inl (kp _ _ h (ne_of h hp (by intro z; cases z))))
  · exact .inl (.inr ⟨ob, kp _ _ h (ne_of h hp (by intro z; cases z))⟩)
  · exact .inr h
theorem Sq.keep {K : PySem.W.Frag} {H H' : Hp} {a p C dx : Addr} {fs : List (Str × V)} {xs : List V} (h : Sq K H a xs) (hp : H p = some (.ins C dx fs)) (kp : ∀ c o, H c = some o → c ≠ p → H' c = some o) : Sq K H' a xs := h.imp (fun h => SqL.keep h hp kp) fun h => SqT.keep h hp kp
theorem SqT.ins {K : PySem.W.Frag} {H : Hp} {a p C dx : Addr} {fs : List (Str × V)} {xs : List V} {o : HO} (h : SqT K H a xs) (hp : H p = some (.ins C dx fs)) : SqT K (upd H p o) a xs := SqT.keep h hp fun c o e hc => by rw [upd_ne hc]; exact e
theorem rf2_rows (R S : Addr) : (putF "starts" (.ref S) (putF "rows" (.ref R) [])).lookup ("rows" : Str) = some (V.ref R) := by
  rw [lookup_putF, if_neg rs_, lookup_putF, if_pos rfl]
theorem rf2_starts (R S : Addr) : (putF "starts" (.ref S) (putF "rows" (.ref R) [])).lookup ("starts" : Str) = some (V.ref S) := by
  rw [lookup_putF, if_pos rfl]
/-- what is good for a Rule -/
structure Good (rows : List Rw) (starts : List Int) (k : Int) : Prop where
  one : 1 ≤ rows.length
  most : rows.length ≤ 48
  ok : ∀ r ∈ rows, RwOk rows.length r
  root : Root (starts.length : Int) k
  st : ∀ s ∈ starts, 0 ≤ s ∧ s < (rows.length : Int)
def spInit (K : PySem.W.Frag) (C : Addr) : Sp := fun vs H Q _ => ∃ (p dx G S : Addr) (refs : List V) (rows : List Rw) (starts : List Int) (k : Int), vs = [.ref p, .ref G, .ref S] ∧ H p = some (.ins C dx []) ∧
  Sq K H G refs ∧ Each H isLT refs rows ∧ Sq K H S (starts.map V.int) ∧ Good rows starts k ∧
  ∀ H', (∃ R S' refs', H' p = some (.ins C dx (rf R S' k)) ∧ H' R = some (.tup refs') ∧ Each H' isT refs' rows ∧ SqT K H' S' (starts.map V.int)) → (∀ c o, H c = some o → c ≠ p → H' c = some o) → Q .non H'
abbrev FunI (K : PySem.W.Frag) (f : Addr) (fd : FuncData) (dd : Addr) : Prop := FunD K "__init__" "Rule.__init__" (defArgs sInit) (defBody sInit) (defScope sInit) [V.ref dd] [] f fd
def rTupK (K : PySem.W.Frag) : List V → Hp → (V → Hp → Prop) → Prop := fun xs H Q => ∃ p ys, xs = [.ref p] ∧ ((SqL K H p ys ∧ ∀ l, H l = none → Q (.ref l) (upd H l (.tup ys))) ∨ (SqT K H p ys ∧ Q (.ref p) H))
theorem call_tupleK {X : Cx} {K : PySem.W.Frag} (h : X.K = K) : CallR X (.type "tuple") (rTupK K) := h ▸ call_tuple_of
section
variable {P : Program} {w : World} {K : PySem.W.Frag} {mg : Str → Option Value} {base : Heap} {C : Addr}
theorem scInit : FnScope ["self", "rows", "starts", "row"] ["self", "rows", "starts"] (defScope sInit) := ⟨rfl, rfl, rfl, by decide +kernel, rfl, by decide +kernel, by decide +kernel⟩
theorem ok_init {f g1 g2 g3 g4 dd : Addr} {fd gd1 gd2 gd3 gd4 : FuncData} (F : FunI K f fd dd) (T : Txt K mg C) (D1 : Df K mg "is_integer" sIsInt g1 gd1 ["value"]) (D2 : Df K mg "is_below" sBelow g2 gd2 ["value", "count"]) (D3 : Df K mg "_is_row" sIsRow g3 gd3 ["row", "count"]) (D4 : Df K mg "_check_table" sCheck g4 gd4 ["rows", "starts"]) : FnOk P w K mg base CX0 5 f fd ["self", "rows", "starts"] (spInit K C) := by
  have G4 : FnOk P w K mg base CX0 4 g4 gd4 ["rows", "starts"] (spCheck K) := ok_check D4.F T D1 D2 D3
  obtain ⟨dm, hdm, km⟩ := T.marks
  refine F.ok scInit (fun vs H Q E h => ?_) (fun cdv A outer s H vs Q E hr h => ?_)
  · obtain ⟨p, dx, G, S, _, _, _, _, rfl, _⟩ := h
    rfl
  · obtain ⟨p, dx, G, S, refs, rows, starts, k, rfl, hp, hG, hE, hS, gd, kk⟩ := h
    refine ⟨_, pss_cut (ps_fld (pv 0) (pe_callTy call_tuple_of (by rfl) T.tup_ boot_tuple' (pa_cons (pe_lc (own := [("row", 3)]) (g := gName 3) (tt := tYes) (by rfl) scInit.nd ((pi_list (pv 1)).or (pi_tup (pv 1))) (blkOk_by (N := ["self", "rows", "starts", "row"]) (sc := defScope sInit) (by decide +kernel))
          (fun _ _ _ _ _ => pg_name (i := 3) scInit.nd rfl (Or.inl rfl)) (fun _ _ _ _ _ => pts_nil)
          (fun _ _ _ _ _ => pe_callTy (call_tupleK (K := K) rfl) (by rfl) T.tup_ boot_tuple' (pa_cons (pv 3) pa_nil))) pa_nil)) rfl)
      (pss_cut (ps_fld (pv 0) (pe_callTy call_tuple_of (by rfl) T.tup_ boot_tuple' (pa_cons (pv 2) pa_nil)) rfl)
      (pss_cons (ps_expr (pe_call G4 hr rfl D4.M D4.F.kp D4.B .nil pass0 (pa_cons (pe_fld (pv 0) rfl) (pa_cons (pe_fld (pv 0) rfl) pa_nil))))
      (pss_one (ps_fld (pv 0) (pe_ix (ix_km km) (pe_glob (v := .ref dm) rfl hdm rfl) (pe_callB call_len_seq (by rfl) T.len_ PySem.boot_len (pa_cons (pe_fld (pv 0) rfl) pa_nil)) (fun _ _ => rfl)) rfl)))), ?_⟩
    have hlr : refs.length = rows.length := hE.1
    refine ⟨fun σ' H' => σ' = [some (.ref p), some (.ref G), some (.ref S), none] ∧ ∃ R refs', H' p = some (.ins C dx (putF "rows" (.ref R) [])) ∧ H' R = some (.tup refs') ∧ Each H' isT refs' rows ∧ (∀ c o, H c = some o → c ≠ p → H' c = some o), ?_, ?_⟩
    rcases hG with hG | hG
    · refine .inl ⟨_, rfl, G, rfl, ⟨_, hG⟩, fun Dd hD => ?_⟩
      refine lc_list (K := K) (a := G) (xs := refs) (fun i H' => Same H H' ∧ ∃ acc, H' Dd = some (.lst acc) ∧ Each H' isT acc (rows.take i)) ⟨Same.new hD, [], upd_same, by rw [List.take_zero]; exact Each.nil⟩ (fun i H' _ q => SqL.up hG q.1) ?_ ?_
      · rintro i x H' hx ⟨sm, acc, hd, he⟩
        have hi : i < rows.length := by rw [← hlr]; exact (List.getElem?_eq_some_iff.mp hx).1
        have hr' : rows[i]? = some rows[i] := List.getElem?_eq_getElem hi
        obtain ⟨c, rfl, hc⟩ := hE.2 i x _ hx hr'
        have hal : acc.length < sizeLine := by
          rw [he.1, List.length_take]
          exact Nat.lt_of_le_of_lt (Nat.le_trans (Nat.min_le_left _ _) (Nat.le_of_lt hi)) (Nat.lt_of_le_of_lt gd.most (by decide))
        refine ⟨rfl, ?_⟩
        dsimp only [tYes]
        rw [if_pos rfl]
        rcases hc with hc | hc
        · refine ⟨_, rfl, c, _, rfl, .inr ⟨SqT.of (sm _ _ hc), acc, hd, hal, ?_, _, upd_same, ?_⟩⟩
          · intro c' o e
            rw [upd_ne (ne_of_none e hD)]
            exact sm _ _ e
          · rw [take_succ' hr']
            exact Each.push (he.imp fun c' r' q => q.lst hd) ((show isT H' c rows[i] from sm _ _ hc).lst hd)
        · refine ⟨_, rfl, c, _, rfl, .inl ⟨SqL.of (sm _ _ hc), fun l hl => ⟨acc, ?_, hal, ?_, _, upd_same, ?_⟩⟩⟩
          · rw [upd_ne (ne_of_none hd hl)]
            exact hd
          · intro c' o e
            rw [upd_ne (ne_of_none e hD), upd_ne (ne_of_none (sm _ _ e) hl)]
            exact sm _ _ e
          · have hd' : (upd H' l (.tup (rv rows[i]))) Dd = some (.lst acc) := by rw [upd_ne (ne_of_none hd hl)]; exact hd
            rw [take_succ' hr']
            exact Each.push ((he.sameT (Same.new hl)).imp fun c' r' q => q.lst hd') ((show isT (upd H' l (.tup (rv rows[i]))) l rows[i] from upd_same).lst hd')
      rintro H1 ⟨s1, acc, hd, he⟩
      rw [hlr, List.take_length] at he
      refine ⟨Dd, _, rfl, .inl ⟨SqL.of hd, fun l hl => ?_⟩⟩
      have hp1 : (upd H1 l (.tup acc)) p = some (.ins C dx []) := by rw [upd_ne (ne_of_none (s1 _ _ hp) hl)]; exact s1 _ _ hp
      refine ⟨_, rfl, p, C, dx, _, rfl, hp1, T.cl, T.nR, (by show 0 < 1000; decide), rfl, l, acc, upd_same, ?_, ?_, ?_⟩
      · rw [upd_ne (ne_of hp1 upd_same (by intro z; cases z)).symm]
        exact upd_same
      · exact (he.sameT (Same.new hl)).imp fun c' r' q => isT.ins q hp1
      · intro c o e hc
        rw [upd_ne hc, upd_ne (ne_of_none (s1 _ _ e) hl)]
        exact s1 _ _ e
    · refine .inr ⟨_, rfl, G, rfl, ⟨_, hG⟩, fun Dd hD => ?_⟩
      refine lc_tup (K := K) (a := G) (xs := refs) (fun i H' => Same H H' ∧ ∃ acc, H' Dd = some (.lst acc) ∧ Each H' isT acc (rows.take i)) ⟨Same.new hD, [], upd_same, by rw [List.take_zero]; exact Each.nil⟩ (fun i H' _ q => SqT.up hG q.1) ?_ ?_
      · rintro i x H' hx ⟨sm, acc, hd, he⟩
        have hi : i < rows.length := by rw [← hlr]; exact (List.getElem?_eq_some_iff.mp hx).1
        have hr' : rows[i]? = some rows[i] := List.getElem?_eq_getElem hi
        obtain ⟨c, rfl, hc⟩ := hE.2 i x _ hx hr'
        have hal : acc.length < sizeLine := by
          rw [he.1, List.length_take]
          exact Nat.lt_of_le_of_lt (Nat.le_trans (Nat.min_le_left _ _) (Nat.le_of_lt hi)) (Nat.lt_of_le_of_lt gd.most (by decide))
        refine ⟨rfl, ?_⟩
        dsimp only [tYes]
        rw [if_pos rfl]
        rcases hc with hc | hc
        · refine ⟨_, rfl, c, _, rfl, .inr ⟨SqT.of (sm _ _ hc), acc, hd, hal, ?_, _, upd_same, ?_⟩⟩
          · intro c' o e
            rw [upd_ne (ne_of_none e hD)]
            exact sm _ _ e
          · rw [take_succ' hr']
            exact Each.push (he.imp fun c' r' q => q.lst hd) ((show isT H' c rows[i] from sm _ _ hc).lst hd)
        · refine ⟨_, rfl, c, _, rfl, .inl ⟨SqL.of (sm _ _ hc), fun l hl => ⟨acc, ?_, hal, ?_, _, upd_same, ?_⟩⟩⟩
          · rw [upd_ne (ne_of_none hd hl)]
            exact hd
          · intro c' o e
            rw [upd_ne (ne_of_none e hD), upd_ne (ne_of_none (sm _ _ e) hl)]
            exact sm _ _ e
          · have hd' : (upd H' l (.tup (rv rows[i]))) Dd = some (.lst acc) := by rw [upd_ne (ne_of_none hd hl)]; exact hd
            rw [take_succ' hr']
            exact Each.push ((he.sameT (Same.new hl)).imp fun c' r' q => q.lst hd') ((show isT (upd H' l (.tup (rv rows[i]))) l rows[i] from upd_same).lst hd')
      rintro H1 ⟨s1, acc, hd, he⟩
      rw [hlr, List.take_length] at he
      refine ⟨Dd, _, rfl, .inl ⟨SqL.of hd, fun l hl => ?_⟩⟩
      have hp1 : (upd H1 l (.tup acc)) p = some (.ins C dx []) := by rw [upd_ne (ne_of_none (s1 _ _ hp) hl)]; exact s1 _ _ hp
      refine ⟨_, rfl, p, C, dx, _, rfl, hp1, T.cl, T.nR, (by show 0 < 1000; decide), rfl, l, acc, upd_same, ?_, ?_, ?_⟩
      · rw [upd_ne (ne_of hp1 upd_same (by intro z; cases z)).symm]
        exact upd_same
      · exact (he.sameT (Same.new hl)).imp fun c' r' q => isT.ins q hp1
      · intro c o e hc
        rw [upd_ne hc, upd_ne (ne_of_none (s1 _ _ e) hl)]
        exact s1 _ _ e
    rintro _ H1 ⟨rfl, R, refs', hp1, hR1, hE1, kp1⟩
    have hS1 : Sq K H1 S (starts.map V.int) := Sq.keep hS hp kp1
    refine ⟨fun σ' H' => σ' = [some (.ref p), some (.ref G), some (.ref S), none] ∧ ∃ S', H' p = some (.ins C dx (putF "starts" (.ref S') (putF "rows" (.ref R) []))) ∧ H' R = some (.tup refs') ∧ Each H' isT refs' rows ∧ SqT K H' S' (starts.map V.int) ∧ (∀ c o, H c = some o → c ≠ p → H' c = some o), ?_, ?_⟩
    · rcases hS1 with hS1 | hS1
      · refine ⟨_, rfl, S, _, rfl, .inl ⟨hS1, fun l hl => ?_⟩⟩
        have hp2 : (upd H1 l (.tup (starts.map V.int))) p = some (.ins C dx (putF "rows" (.ref R) [])) := by rw [upd_ne (ne_of_none hp1 hl)]; exact hp1
        refine ⟨_, rfl, p, C, dx, _, rfl, hp2, T.cl, T.nS, (by show 1 < 1000; decide), rfl, l, upd_same, ?_, ?_, ?_, ?_⟩
        · rw [upd_ne (ne_of (Same.new hl _ _ hR1) hp2 (by intro z; cases z))]
          exact Same.new hl _ _ hR1
        · exact (hE1.sameT (Same.new hl)).imp fun c' r' q => isT.ins q hp2
        · exact SqT.ins (SqT.of upd_same) hp2
        · intro c o e hc
          rw [upd_ne hc]
          exact Same.new hl _ _ (kp1 _ _ e hc)
      · refine ⟨_, rfl, S, _, rfl, .inr ⟨hS1, ?_⟩⟩
        refine ⟨_, rfl, p, C, dx, _, rfl, hp1, T.cl, T.nS, (by show 1 < 1000; decide), rfl, S, upd_same, ?_, ?_, ?_, ?_⟩
        · rw [upd_ne (ne_of hR1 hp1 (by intro z; cases z))]
          exact hR1
        · exact hE1.imp fun c' r' q => isT.ins q hp1
        · exact SqT.ins hS1 hp1
        · intro c o e hc
          rw [upd_ne hc]
          exact kp1 _ _ e hc
    rintro _ H2 ⟨rfl, S', hp2, hR2, hE2, hS2, kp2⟩
    refine ⟨_, rfl, p, C, dx, _, _, rfl, hp2, T.cl, T.nR, rf2_rows R S', _, rfl, p, C, dx, _, _, rfl, hp2, T.cl, T.nS, rf2_starts R S', R, S', refs', rows, starts, k, rfl, hR2, hE2, hS2, gd.one, gd.most, gd.ok, gd.root, gd.st, fun H3 s3 => ?_⟩
    refine ⟨_, rfl, p, C, dx, _, _, rfl, s3 _ _ hp2, T.cl, T.nS, rf2_starts R S', S', _, rfl, .inr (SqT.up hS2 s3), (starts.length : Int), k, rfl, ?_, gd.root, ?_⟩
    · show V.int (((starts.map V.int).length : Nat) : Int) = _
      rw [List.length_map]
    refine ⟨_, rfl, p, C, dx, _, rfl, s3 _ _ hp2, T.cl, T.nM, (by show 2 < 1000; decide), ?_⟩
    refine kk _ ⟨R, S', refs', upd_same, ?_, ?_, ?_⟩ ?_
    · rw [upd_ne (ne_of (s3 _ _ hR2) (s3 _ _ hp2) (by intro z; cases z))]
      exact s3 _ _ hR2
    · exact (hE2.sameT s3).imp fun c' r' q => isT.ins q (s3 _ _ hp2)
    · exact SqT.ins (SqT.up hS2 s3) (s3 _ _ hp2)
    · intro c o e hc
      rw [upd_ne hc]
      exact s3 _ _ (kp2 _ _ e hc)
end
end PA

set_option maxHeartbeats 2000000
namespace PA
open PySem L2 RZ
open C8 (pss_cut tCut)
abbrev sDraw : Stmt := top 39
abbrev sStart : Stmt := top 40
abbrev sSame : Stmt := top 41
abbrev sTable : Stmt := top 42
abbrev sText : Stmt := top 43
abbrev sLaw : Stmt := top 44
/-! ### data of ints -/
theorem ints_lay : ∀ ns : List Int, PyData.canLayAll0 (ns.map PyData.int) = true
  | [] => by simp [PyData.canLayAll0]
  | z :: zs => by simp [PyData.canLayAll0, PyData.canLay0, ints_lay zs]
theorem ints_depth : ∀ ns : List Int, PyData.depthAll (ns.map PyData.int) ≤ 2
  | [] => by simp [PyData.depthAll]
  | z :: zs => by
    have h1 := ints_depth zs
    simp only [List.map_cons, PyData.depthAll, PyData.depth]
    omega
theorem ints_shaped (ns : List Int) : SeqAt.shaped (.list (ns.map PyData.int)) = true := by
  have h1 := ints_depth ns
  have h2 : PyData.depth (.list (ns.map PyData.int)) ≤ 64 := by
    simp only [PyData.depth]
    omega
  show (PyData.canLay0 (.list (ns.map PyData.int)) && decide (PyData.depth (.list (ns.map PyData.int)) ≤ 64)) = true
  rw [Bool.and_eq_true]
  exact ⟨by simp only [PyData.canLay0]; exact ints_lay ns, decide_eq_true h2⟩
theorem dp_ints {K : PySem.W.Frag} {H : Hp} : ∀ ns : List Int, DpAll K H (ns.map V.int) (ns.map PyData.int)
  | [] => .nil
  | z :: zs => .cons (.int z) (dp_ints zs)
theorem ints_nil (ns : List Int) : PyData.eqv (.list (ns.map PyData.int)) (.list []) = ns.isEmpty := by
  cases ns with
  | nil => simp [PyData.eqv, PyData.eqvAll]
  | cons z zs => simp [PyData.eqv, PyData.eqvAll]
/-! ### the stream of draws: the list at a, the numbers left at l, n draws made -/
def StreamAt (H : Hp) (a l : Addr) (n : Nat) : Prop := a ≠ l ∧ ∃ (ns : List Int) (x z : Int), H a = some (.lst [.ref l, .int x, .int (n : Int), .int z]) ∧ H l = some (.lst (ns.map V.int)) ∧ ns.length ≤ 63 ∧ 0 ≤ x ∧ 0 ≤ z ∧ z < 2147483647
/-- all but the stream is kept -/
def Keep (a l : Addr) (H H' : Hp) : Prop := ∀ c o, c ≠ a → c ≠ l → H c = some o → H' c = some o
theorem Keep.refl (a l : Addr) (H : Hp) : Keep a l H H := fun _ _ _ _ h => h
theorem Keep.trans {a l : Addr} {H H1 H2 : Hp} (h : Keep a l H H1) (h' : Keep a l H1 H2) : Keep a l H H2 := fun c o x y e => h' c o x y (h c o x y e)
theorem Keep.of {a l : Addr} {H H' : Hp} (h : Same H H') : Keep a l H H' := fun c o _ _ e => h c o e
theorem StreamAt.same {H H' : Hp} {a l : Addr} {n : Nat} (h : StreamAt H a l n) (s : Same H H') : StreamAt H' a l n := by
  obtain ⟨ne, ns, x, z, h1, h2, h3⟩ := h
  exact ⟨ne, ns, x, z, s _ _ h1, s _ _ h2, h3⟩
def spDraw : Sp := fun vs H Q _ => ∃ (a l : Addr) (n : Nat) (many : Int), vs = [.ref a, .int many] ∧ StreamAt H a l n ∧ n ≤ 100000 ∧ 0 < many ∧ Sm 9000 many ∧
  ∀ (r : Int) (H' : Hp), 0 ≤ r → r < many → StreamAt H' a l (n + 1) → Keep a l H H' → Q (.int r) H'
section
variable {P : Program} {w : World} {K : PySem.W.Frag} {mg : Str → Option Value} {base : Heap} {C : Addr}
theorem scDraw : FnScope ["_law_stream", "_law_many", "_law_digit", "_law_mixed"] ["_law_stream", "_law_many"] (defScope sDraw) := ⟨rfl, rfl, rfl, by decide +kernel, rfl, by decide +kernel, by decide +kernel⟩
theorem ok_draw {f : Addr} {fd : FuncData} (F : Fun K "_law_draw" "_law_draw" sDraw f fd) (T : Txt K mg C) : FnOk P w K mg base CX0 1 f fd ["_law_stream", "_law_many"] spDraw := by
  refine F.ok scDraw (fun vs H Q E h => ?_) (fun cdv A outer s H vs Q E hr h => ?_)
  · obtain ⟨a, l, n, many, rfl, _⟩ := h
    rfl
  · obtain ⟨a, l, n, many, rfl, ⟨ne, ns, x, z, h1, h2, hl, hx, hz0, hz1⟩, hn, hm, hms, k⟩ := h
    have hW : ∀ j : Int, CDivW j many := fun j => ⟨hm, Nat.lt_of_lt_of_le (PySem.Flt.log2_lt_of (by decide) hms) (Nat.le_refl _)⟩
    refine ⟨_, pss_cut (ps_asg (pe_op op_add (pe_ix ix_list (pv 0) pe_int (fun _ _ => rfl)) pe_int) (pg_sub (pv 0) pe_int set_list))
      (pss_cut (ps_if (PW.pt (pw_and (pt_cmpR op_eq (pe_ix ix_list (pv 0) pe_int (fun _ _ => rfl)) pe_int (nomark _)) (pw_and1 (pt_cmpR (op_neD hr.units) (pe_ix ix_list (pv 0) pe_int (fun _ _ => rfl)) (pe_lst pa_nil) (nomark _)))))
        (pss_cons (ps_asg (pe_bm PySem.F.plainAttrs_list PySem.F.slot_list_pop PySem.F.type_list_pop mt_popAt (pe_ix ix_list (pv 0) pe_int (fun _ _ => rfl)) (pa_cons pe_int pa_nil)) (pg_sub (pv 0) pe_int set_list))
          (pss_one (ps_if (pt_cmpR op_lt (pe_ix ix_list (pv 0) pe_int (fun _ _ => rfl)) (pe_op op_pow pe_int pe_int) (nomark _))
            (pss_cons (ps_asg (pe_op op_mod (pe_callTy call_int1 (by rfl) T.int_ boot_int' (pa_cons (pe_op op_add (pe_op op_add (pe_op op_mul (pe_ix ix_list (pv 0) pe_int (fun _ _ => rfl)) pe_int) (pe_ix ix_list (pv 0) pe_int (fun _ _ => rfl))) pe_int) pa_nil)) pe_int) (pg_sub (pv 0) pe_int set_list))
              (pss_one (ps_asg pe_int (pg_sub (pv 0) pe_int set_list)))) pss_nil))) pss_nil)
      (pss_cons (ps_if (pt_cmpR op_gt (pe_ix ix_list (pv 0) pe_int (fun _ _ => rfl)) pe_int (nomark _))
        (pss_cons (ps_set (i := 2) scDraw.nd rfl (Or.inl rfl) (pe_op op_mod (pe_callTy call_int1 (by rfl) T.int_ boot_int' (pa_cons (pe_ix ix_list (pv 0) pe_int (fun _ _ => rfl)) pa_nil)) (pv 1)))
          (pss_cons (ps_asg (pe_op op_fdivW (pe_ix ix_list (pv 0) pe_int (fun _ _ => rfl)) (pv 1)) (pg_sub (pv 0) pe_int set_list))
            (pss_one (ps_ret (pv 2))))) pss_nil)
      (pss_cons (ps_set (i := 3) scDraw.nd rfl (Or.inl rfl) (pe_op op_mod (pe_op op_pow (pe_op op_add (pe_op op_add (pe_ix ix_list (pv 0) pe_int (fun _ _ => rfl)) (pe_op op_mul pe_int (pe_ix ix_list (pv 0) pe_int (fun _ _ => rfl)))) pe_int) pe_int) pe_int))
      (pss_one (ps_ret (pe_op op_mod (pe_op op_mod (pe_op op_pow (pe_op op_add (pe_op op_add (pe_op op_mul (pv 3) pe_int) (pe_op op_mul (pe_op op_mul pe_int (pe_ix ix_list (pv 0) pe_int (fun _ _ => rfl))) (pe_ix ix_list (pv 0) pe_int (fun _ _ => rfl)))) pe_int) pe_int) pe_int) (pv 1))))))), ?_⟩
    refine ⟨fun σ' H' => σ' = [some (V.ref a), some (V.int many), none, none] ∧ H' = upd H a (.lst [.ref l, .int x, .int ((n : Int) + 1), .int z]), ?_, ?_⟩
    · exact ⟨_, rfl, a, _, 2, _, rfl, rfl, SqL.of h1, rfl, _, _, rfl, rfl, _, rfl, a, _, 2, 2, rfl, rfl, h1, rfl, rfl, rfl⟩
    rintro _ _ ⟨rfl, rfl⟩
    refine ⟨fun σ' H' => σ' = [some (V.ref a), some (V.int many), none, none] ∧ ∃ (ns' : List Int) (x' z' : Int), H' a = some (.lst [.ref l, .int x', .int ((n : Int) + 1), .int z']) ∧ H' l = some (.lst (ns'.map V.int)) ∧ ns'.length ≤ 63 ∧ 0 ≤ x' ∧ 0 ≤ z' ∧ z' < 2147483647 ∧ Keep a l H H', ?_, ?_⟩
    · have kp1 : Keep a l H (upd H a (.lst [.ref l, .int x, .int ((n : Int) + 1), .int z])) := fun c o ca _ e => by rw [upd_ne ca]; exact e
      have hl1 : (upd H a (.lst [.ref l, .int x, .int ((n : Int) + 1), .int z])) l = some (.lst (ns.map V.int)) := by rw [upd_ne ne.symm]; exact h2
      refine ⟨_, rfl, a, _, 1, _, rfl, rfl, SqL.of upd_same, rfl, rfl, _, rfl, ifD_2 (fun hx0 => ?_) (fun _ => iteF ?_)⟩
      · refine ⟨_, rfl, a, _, 0, _, rfl, rfl, SqL.of upd_same, rfl, Nat.zero_le _, fun p hp => ?_⟩
        have npa : a ≠ p := fun e => by rw [← e, upd_same] at hp; cases hp
        have npl : l ≠ p := ne_of_none hl1 hp
        have kp2 : Keep a l H (upd (upd H a (.lst [.ref l, .int x, .int ((n : Int) + 1), .int z])) p (.lst [])) := fun c o ca cl e => by
          rw [upd_ne (ne_of_none (kp1 c o ca cl e) hp)]; exact kp1 c o ca cl e
        refine ⟨.list (ns.map PyData.int), .list [], .lst (SqL.of (by rw [upd_ne npl]; exact hl1)) (dp_ints ns), .lst (SqL.of upd_same) .nil, ints_shaped ns, ints_shaped [], _, rfl, ?_⟩
        rw [ints_nil]
        cases ns with
        | nil => exact iteF ⟨rfl, [], x, z, by rw [upd_ne npa, upd_same], by rw [upd_ne npl]; exact hl1, Nat.zero_le _, hx, hz0, hz1, kp2⟩
        | cons y ys =>
          refine iteT ?_
          have ga : (upd (upd H a (.lst [.ref l, .int x, .int ((n : Int) + 1), .int z])) p (.lst [])) a = some (.lst [.ref l, .int x, .int ((n : Int) + 1), .int z]) := by rw [upd_ne npa, upd_same]
          have gl : (upd (upd H a (.lst [.ref l, .int x, .int ((n : Int) + 1), .int z])) p (.lst [])) l = some (.lst ((y :: ys).map V.int)) := by rw [upd_ne npl]; exact hl1
          generalize (upd (upd H a (.lst [.ref l, .int x, .int ((n : Int) + 1), .int z])) p (.lst [])) = Hb at ga gl kp2
          refine ⟨_, rfl, a, _, 0, _, rfl, rfl, SqL.of ga, rfl, .inl ⟨rfl, _, SqL.of gl⟩, l, _, 0, 0, .int y, rfl, rfl, gl, by decide, by decide, (ixN_seq (Evl.ixN_nat (j := 0) (by simp))).1, rfl, ?_⟩
          have ga2 : (upd Hb l (.lst (((y :: ys).map V.int).eraseIdx 0))) a = some (.lst [.ref l, .int x, .int ((n : Int) + 1), .int z]) := by rw [upd_ne ne]; exact ga
          refine ⟨_, rfl, a, _, 1, 1, rfl, rfl, ga2, rfl, ?_⟩
          have kp3 : ∀ o, Keep a l H (upd (upd Hb l (.lst (((y :: ys).map V.int).eraseIdx 0))) a o) := fun o c u ca cl e => by rw [upd_ne ca, upd_ne cl]; exact kp2 c u ca cl e
          have gl3 : ∀ o, (upd (upd Hb l (.lst (((y :: ys).map V.int).eraseIdx 0))) a o) l = some (.lst (ys.map V.int)) := fun o => by rw [upd_ne ne.symm, upd_same]; rfl
          have hys : ys.length ≤ 63 := Nat.le_trans (Nat.le_succ _) hl
          refine ⟨_, rfl, a, _, 1, _, rfl, rfl, SqL.of upd_same, rfl, 10, 18, rfl, rfl, (by show CPow 10 18; unfold CPow; decide), _, _, rfl, rfl, _, rfl, ifD_2 (fun hy => ?_) (fun hy => ?_)⟩
          · refine ⟨_, rfl, a, _, 3, _, rfl, rfl, SqL.of upd_same, rfl, _, _, rfl, rfl, .inr (by decide), _, rfl, a, _, 1, _, rfl, rfl, SqL.of upd_same, rfl, _, _, rfl, rfl, _, _, rfl, rfl, .inl ⟨_, rfl, _, _, rfl, rfl, (by show (0 : Int) < 2147483647; decide), _, rfl, a, _, 3, 3, rfl, rfl, upd_same, rfl, ?_⟩⟩
            refine ⟨_, rfl, a, _, 1, 1, rfl, rfl, upd_same, rfl, ?_⟩
            rw [upd_upd, upd_upd]
            exact ⟨rfl, ys, 0, (z * 31 + y + 7) % 2147483647, upd_same, gl3 _, hys, by decide, Int.emod_nonneg _ (by decide), Int.emod_lt_of_pos _ (by decide), kp3 _⟩
          · exact ⟨rfl, ys, y, z, upd_same, gl3 _, hys, by
              have h18 : (0 : Int) ≤ 10 ^ (18 : Int).toNat := by decide
              omega, hz0, hz1, kp3 _⟩
      · exact ⟨rfl, ns, x, z, upd_same, hl1, hl, hx, hz0, hz1, kp1⟩
    rintro _ H1 ⟨rfl, ns', x', z', g1, g2, gl, gx, gz0, gz1, kp⟩
    refine ⟨_, rfl, a, _, 1, _, rfl, rfl, SqL.of g1, rfl, _, _, rfl, rfl, _, rfl, ifD_2 (fun hp => ?_) (fun _ => ?_)⟩
    · refine ⟨_, rfl, a, _, 1, _, rfl, rfl, SqL.of g1, rfl, .inl ⟨_, rfl, _, rfl, _, _, rfl, rfl, hm, ?_⟩⟩
      refine ⟨_, rfl, a, _, 1, _, rfl, rfl, SqL.of g1, rfl, _, rfl, _, _, rfl, rfl, hW _, _, rfl, a, _, 1, 1, rfl, rfl, g1, rfl, _, rfl, ?_⟩
      refine k (x' % many) _ (Int.emod_nonneg _ (by omega)) (Int.emod_lt_of_pos _ hm) ⟨ne, ns', x' / many, z', upd_same, by rw [upd_ne ne.symm]; exact g2, gl, Int.ediv_nonneg gx (by omega), gz0, gz1⟩ fun c o ca cl e => by
        rw [upd_ne ca]; exact kp c o ca cl e
    · have hn' : (n : Int) ≤ 100000 := by omega
      have hn0 : (0 : Int) ≤ n := by omega
      refine ⟨_, rfl, a, _, 3, _, rfl, rfl, SqL.of g1, rfl, _, rfl, a, _, 2, _, rfl, rfl, SqL.of g1, rfl, _, _, rfl, rfl, .inl (by decide), _, _, rfl, rfl, _, _, rfl, rfl, _, _, rfl, rfl, ?_, _, _, rfl, rfl, (by show (0 : Int) < 2147483629; decide), ?_⟩
      · show CPow _ 5
        refine ⟨by decide, by decide, ?_⟩
        have e64 : (2 : Nat) ^ 64 = 18446744073709551616 := by decide
        rw [e64]
        omega
      · generalize hmx : ((z' + 104729 * ((n : Int) + 1) + 17) ^ (5 : Int).toNat) % 2147483629 = mx
        have m0 : 0 ≤ mx := by rw [← hmx]; exact Int.emod_nonneg _ (by decide)
        have m1 : mx < 2147483629 := by rw [← hmx]; exact Int.emod_lt_of_pos _ (by decide)
        refine ⟨_, rfl, _, _, rfl, rfl, .inr (by decide), _, rfl, a, _, 2, _, rfl, rfl, SqL.of g1, rfl, _, _, rfl, rfl, .inl (by decide), _, rfl, a, _, 2, _, rfl, rfl, SqL.of g1, rfl, _, _, rfl, rfl, .inr ?_, _, _, rfl, rfl, _, _, rfl, rfl, _, _, rfl, rfl, ?_, _, _, rfl, rfl, (by show (0 : Int) < 1000000007; decide), _, rfl, _, _, rfl, rfl, hm, ?_⟩
        · have e64 : (2 : Int) ^ 64 = 18446744073709551616 := by decide
          rw [e64]
          omega
        · show CPow _ 3
          refine ⟨by decide, by decide, ?_⟩
          have e64 : (2 : Nat) ^ 64 = 18446744073709551616 := by decide
          rw [e64]
          have q0 : 0 ≤ 40503 * ((n : Int) + 1) * ((n : Int) + 1) := Int.mul_nonneg (by omega) (by omega)
          have q1 : 40503 * ((n : Int) + 1) * ((n : Int) + 1) ≤ 40503 * 100001 * 100001 := Int.mul_le_mul (by omega) (by omega) (by omega) (by decide)
          omega
        · exact k _ _ (Int.emod_nonneg _ (by omega)) (Int.emod_lt_of_pos _ hm) ⟨ne, ns', x', z', g1, g2, gl, gx, gz0, gz1⟩ kp
end
theorem sm9000 {x : Int} {n : Nat} (h : Sm n x) (hn : n ≤ 9000) : Sm 9000 x := h.mono hn
theorem sm_small {x : Int} (h : x.natAbs < 8) : Sm 9000 x := sm9000 (n := 3) h (by decide)
def spStart (K : PySem.W.Frag) : Sp := fun vs H Q _ => ∃ (p : Addr) (ns : List Int), vs = [.ref p] ∧ SqL K H p (ns.map V.int) ∧ ns.length ≤ 63 ∧ ∀ (a l : Addr) (H' : Hp), StreamAt H' a l 0 → H a = none → H l = none → Same H H' → Q (.ref a) H'
section
variable {P : Program} {w : World} {K : PySem.W.Frag} {mg : Str → Option Value} {base : Heap} {C : Addr}
theorem scStart : FnScope ["_law_script"] ["_law_script"] (defScope sStart) := ⟨rfl, rfl, rfl, by decide +kernel, rfl, by decide +kernel, by decide +kernel⟩
theorem ok_start {f : Addr} {fd : FuncData} (F : Fun K "_law_start" "_law_start" sStart f fd) (T : Txt K mg C) : FnOk P w K mg base CX0 1 f fd ["_law_script"] (spStart K) := by
  refine F.ok scStart (fun vs H Q E h => ?_) (fun cdv A outer s H vs Q E hr h => ?_)
  · obtain ⟨p, ns, rfl, _⟩ := h
    rfl
  · obtain ⟨p, ns, rfl, hS, hl, k⟩ := h
    refine ⟨_, pss_one (ps_ret (pe_lst (pa_cons (pe_callTy call_list_of (by rfl) T.list_ boot_list' (pa_cons (pv 0) pa_nil)) (pa_cons pe_int (pa_cons pe_int (pa_cons pe_int pa_nil)))))), ?_⟩
    refine ⟨_, rfl, p, _, rfl, .inl hS, fun l hl' => ⟨by show 4 ≤ sizeLine; decide, fun a ha => ?_⟩⟩
    have nal : a ≠ l := fun e => by rw [e, upd_same] at ha; cases ha
    have ha0 : H a = Option.none := by rw [upd_ne nal] at ha; exact ha
    exact k a l _ ⟨nal, ns, 0, 0, upd_same, by rw [upd_ne nal.symm, upd_same], hl, by decide, by decide, by decide⟩ ha0 hl' ((Same.new hl').trans (Same.new ha))
end
end PA

set_option maxHeartbeats 4000000
namespace PA
open PySem L2 RZ
/-! ### a comprehension over zip -/
section
variable {K : PySem.W.Frag} {a b : Addr} {xs ys : List V} {g : TG} {tt : TT} {te : TE} {vs : List Nat} {σ : L2.St} {H1 : Hp} {D : Addr} {Qd : Hp → Prop}
theorem lc_zipL (hl : xs.length = ys.length) (Pv : Nat → Hp → Prop) (h0 : Pv 0 (upd H1 D (.lst []))) (hq : ∀ i H, Pv i H → SqL K H a xs ∧ SqL K H b ys)
    (hs : ∀ (i : Nat) (x y : V) (T : Addr) (H : Hp), xs[i]? = some x → ys[i]? = some y → Pv i H → H T = none → g (.ref T) (wipe σ vs) (upd H T (.tup [x, y])) fun σ2 H2 => wipe σ2 vs = wipe σ vs ∧ tt σ2 H2 fun c H3 =>
      if c = true then te σ2 H3 fun z H4 => ∃ acc, H4 D = some (.lst acc) ∧ acc.length < sizeLine ∧ Pv (i + 1) (upd H4 D (.lst (acc ++ [z]))) else Pv (i + 1) H3) (hd : ∀ H, Pv xs.length H → Qd H) :
    ∃ W : Nat → Nat → Hp → Prop, (∃ m, W 0 m (upd H1 D (.lst []))) ∧ ∀ i m H, W i m H →
      ((Itz K a b).stop i H ∧ Qd H) ∨ ((Itz K a b).go i H ∧ ∃ Nx : Hp → Prop, (∀ H', Nx H' → ∃ m', m' < m ∧ W (i + 1) m' H') ∧ ∀ x H', (Itz K a b).yld i H x H' → g x (wipe σ vs) H' fun σ2 H2 => wipe σ2 vs = wipe σ vs ∧ tt σ2 H2 fun c H3 =>
        if c = true then te σ2 H3 fun z H4 => ∃ acc, H4 D = some (.lst acc) ∧ acc.length < sizeLine ∧ Nx (upd H4 D (.lst (acc ++ [z]))) else Nx H3) := by
  refine ⟨fun i m H => m = xs.length - i ∧ i ≤ xs.length ∧ Pv i H, ⟨xs.length, rfl, Nat.zero_le _, h0⟩, ?_⟩
  rintro i m H ⟨rfl, hi, p⟩
  obtain ⟨qx, qy⟩ := hq i H p
  by_cases hlt : i < xs.length
  · have hx : xs[i]? = some xs[i] := List.getElem?_eq_getElem hlt
    have hlt2 : i < ys.length := by omega
    have hy : ys[i]? = some ys[i] := List.getElem?_eq_getElem hlt2
    refine .inr ⟨⟨xs, ys, _, _, qx, qy, hx, hy⟩, Pv (i + 1), fun H' p' => ⟨xs.length - (i + 1), by omega, rfl, hlt, p'⟩, fun v H' y => ?_⟩
    obtain ⟨T, x', y', rfl, hT, rfl, f1, f2⟩ := y
    exact hs i x' y' T H (f1 xs qx) (f2 ys qy) p hT
  · have e : i = xs.length := by omega
    subst e
    exact .inl ⟨⟨xs, ys, qx, qy, Or.inl (Nat.le_refl _)⟩, hd H p⟩
theorem lc_zipT (hl : xs.length = ys.length) (Pv : Nat → Hp → Prop) (h0 : Pv 0 (upd H1 D (.lst []))) (hq : ∀ i H, Pv i H → SqT K H a xs ∧ SqT K H b ys)
    (hs : ∀ (i : Nat) (x y : V) (T : Addr) (H : Hp), xs[i]? = some x → ys[i]? = some y → Pv i H → H T = none → g (.ref T) (wipe σ vs) (upd H T (.tup [x, y])) fun σ2 H2 => wipe σ2 vs = wipe σ vs ∧ tt σ2 H2 fun c H3 =>
      if c = true then te σ2 H3 fun z H4 => ∃ acc, H4 D = some (.lst acc) ∧ acc.length < sizeLine ∧ Pv (i + 1) (upd H4 D (.lst (acc ++ [z]))) else Pv (i + 1) H3) (hd : ∀ H, Pv xs.length H → Qd H) :
    ∃ W : Nat → Nat → Hp → Prop, (∃ m, W 0 m (upd H1 D (.lst []))) ∧ ∀ i m H, W i m H →
      ((ItzT K a b).stop i H ∧ Qd H) ∨ ((ItzT K a b).go i H ∧ ∃ Nx : Hp → Prop, (∀ H', Nx H' → ∃ m', m' < m ∧ W (i + 1) m' H') ∧ ∀ x H', (ItzT K a b).yld i H x H' → g x (wipe σ vs) H' fun σ2 H2 => wipe σ2 vs = wipe σ vs ∧ tt σ2 H2 fun c H3 =>
        if c = true then te σ2 H3 fun z H4 => ∃ acc, H4 D = some (.lst acc) ∧ acc.length < sizeLine ∧ Nx (upd H4 D (.lst (acc ++ [z]))) else Nx H3) := by
  refine ⟨fun i m H => m = xs.length - i ∧ i ≤ xs.length ∧ Pv i H, ⟨xs.length, rfl, Nat.zero_le _, h0⟩, ?_⟩
  rintro i m H ⟨rfl, hi, p⟩
  obtain ⟨qx, qy⟩ := hq i H p
  by_cases hlt : i < xs.length
  · have hx : xs[i]? = some xs[i] := List.getElem?_eq_getElem hlt
    have hlt2 : i < ys.length := by omega
    have hy : ys[i]? = some ys[i] := List.getElem?_eq_getElem hlt2
    refine .inr ⟨⟨xs, ys, _, _, qx, qy, hx, hy⟩, Pv (i + 1), fun H' p' => ⟨xs.length - (i + 1), by omega, rfl, hlt, p'⟩, fun v H' y => ?_⟩
    obtain ⟨T, x', y', rfl, hT, rfl, f1, f2⟩ := y
    exact hs i x' y' T H (f1 xs qx) (f2 ys qy) p hT
  · have e : i = xs.length := by omega
    subst e
    exact .inl ⟨⟨xs, ys, qx, qy, Or.inl (Nat.le_refl _)⟩, hd H p⟩
end
/-! ### two values that are the same, to the depth n: ints, bools, lists and tuples of such -/
inductive Two (K : PySem.W.Frag) (H : Hp) : Nat → V → V → Prop where
  | bl (n : Nat) (b : Bool) : Two K H n (.bl b) (.bl b)
  | int (n : Nat) (i : Int) : Two K H n (.int i) (.int i)
  | lst {n : Nat} {a b : Addr} {xs ys : List V} (ha : H a = some (.lst xs)) (hb : H b = some (.lst ys)) (hl : xs.length = ys.length) (hsz : xs.length ≤ sizeLine) (hi : ∀ (i : Nat) (x y : V), xs[i]? = some x → ys[i]? = some y → Two K H n x y) : Two K H (n + 1) (.ref a) (.ref b)
  | tup {n : Nat} {a b : Addr} {xs ys : List V} (ha : SqT K H a xs) (hb : SqT K H b ys) (hl : xs.length = ys.length) (hsz : xs.length ≤ sizeLine) (hi : ∀ (i : Nat) (x y : V), xs[i]? = some x → ys[i]? = some y → Two K H n x y) : Two K H (n + 1) (.ref a) (.ref b)
theorem Two.same {K : PySem.W.Frag} {H H' : Hp} {n : Nat} {x y : V} (t : Two K H n x y) (s : Same H H') : Two K H' n x y := by
  induction t with
  | bl n b => exact .bl n b
  | int n i => exact .int n i
  | lst ha hb hl hz _ ih => exact .lst (s _ _ ha) (s _ _ hb) hl hz ih
  | tup ha hb hl hz _ ih => exact .tup (SqT.up ha s) (SqT.up hb s) hl hz ih
theorem tyT {K : PySem.W.Frag} {H : Hp} {a : Addr} {xs : List V} (h : SqT K H a xs) : TyX K H (.ref a) (.type "tuple") := by
  rcases h with (h | ⟨ob, h⟩) | ⟨o, its, n, h1, h2, _⟩
  · exact .base (.tup h)
  · exact .fTuple h
  · exact .kTuple h1 h2
def spSame (K : PySem.W.Frag) (n : Nat) : Sp := fun vs H Q _ => ∃ x y, vs = [x, y] ∧ Two K H n x y ∧ ∀ H', Same H H' → Q (.bl true) H'
section
variable {P : Program} {w : World} {K : PySem.W.Frag} {mg : Str → Option Value} {base : Heap} {C : Addr}
theorem scSame : FnScope ["_law_found", "_law_due", "_law_one", "_law_other"] ["_law_found", "_law_due"] (defScope sSame) := ⟨rfl, rfl, rfl, by decide +kernel, rfl, by decide +kernel, by decide +kernel⟩
theorem kit2 {t : String} {b1 b2 r : Bool} (h1 : kitB t "list" = some b1) (h2 : kitB t "tuple" = some b2) (hr : (b1 || b2) = r) : PySem.W.kitAny K (.type t) [.type "list", .type "tuple"] = some r := by
  subst hr
  refine kitAny_cons (b := b1) (kit_ty h1) (fun e => ?_) (fun e => by rw [e]; rfl)
  subst e
  refine kitAny_cons (b := b2) (kit_ty h2) (fun e => ?_) (fun e => by rw [e]; rfl)
  subst e
  exact kitAny_nil
theorem ok_same {f : Addr} {fd : FuncData} (D : Df K mg "_law_same" sSame f fd ["_law_found", "_law_due"]) (T : Txt K mg C) : ∀ n : Nat, FnOk P w K mg base CX0 (n + 1) f fd ["_law_found", "_law_due"] (spSame K n) := by
  have hlen : ∀ n, ∀ vs H Q E, spSame K n vs H Q E → vs.length = (["_law_found", "_law_due"] : List Str).length := fun n vs H Q E h => by
    obtain ⟨x, y, rfl, _⟩ := h
    rfl
  intro n
  induction n with
  | zero =>
    refine D.F.ok scSame (hlen 0) (fun cdv A outer s H vs Q E hr h => ?_)
    obtain ⟨x, y, rfl, t, k⟩ := h
    refine ⟨_, pss_cons (ps_if (pt_val (pe_callB call_isiT (by rfl) T.isi boot_isi (pa_cons (pv 1) (pa_cons (pe_tup (pa_cons (pe_bltn (v := .ty "list") (by rfl) T.list_ boot_list' rfl) (pa_cons (pe_bltn (v := .ty "tuple") (by rfl) T.tup_ boot_tuple' rfl) pa_nil))) pa_nil)))) pss_never pss_nil)
      (pss_cons (ps_if (pt_val (pe_callB call_isi (by rfl) T.isi boot_isi (pa_cons (pv 1) (pa_cons (pe_bltn (v := .ty "int") (by rfl) T.int_ boot_int' rfl) pa_nil))))
        (pss_one (ps_ret (pe_and (pe_callB call_isi (by rfl) T.isi boot_isi (pa_cons (pv 0) (pa_cons (pe_bltn (v := .ty "int") (by rfl) T.int_ boot_int' rfl) pa_nil)))
          (pe_and (pe_cmpR op_eq (pe_callB call_isi (by rfl) T.isi boot_isi (pa_cons (pv 0) (pa_cons (pe_bltn (v := .ty "bool") (by rfl) T.bool_ boot_bool' rfl) pa_nil))) (pe_callB call_isi (by rfl) T.isi boot_isi (pa_cons (pv 1) (pa_cons (pe_bltn (v := .ty "bool") (by rfl) T.bool_ boot_bool' rfl) pa_nil))) (nomark _))
            (pe_one (pe_cmpR op_eq (pv 0) (pv 1) (nomark _))))))) pss_nil) pss_never), ?_⟩
    cases t with
    | int _ i =>
      refine ⟨_, rfl, by show 2 ≤ sizeLine; decide, fun tp htp => ⟨_, tp, _, _, [.type "list", .type "tuple"], _, rfl, upd_same, .cons (.ty _) (.cons (.ty _) .nil), .base (.int i), kit2 (b1 := false) (b2 := false) (by decide +kernel) (by decide +kernel) rfl, _, rfl, iteF ?_⟩⟩
      refine ⟨_, rfl, _, _, _, _, _, rfl, .ty _, .base (.int i), kit_ty (b := "int") (r := true) (by decide +kernel), _, rfl, iteT ?_⟩
      refine ⟨_, rfl, _, _, _, _, _, rfl, .ty _, .base (.int i), kit_ty (b := "int") (r := true) (by decide +kernel), _, rfl, iteT ?_⟩
      refine ⟨_, rfl, _, _, _, _, _, rfl, .ty _, .base (.int i), kit_ty (b := "bool") (r := false) (by decide +kernel), _, rfl, _, _, _, _, _, rfl, .ty _, .base (.int i), kit_ty (b := "bool") (r := false) (by decide +kernel), rfl, _, rfl, ifD_yes rfl ?_⟩
      refine ⟨_, rfl, _, rfl, rfl, ?_⟩
      show Q (V.bl (decide (V.int i = V.int i))) _
      rw [decide_eq_true rfl]
      exact k _ (Same.new htp)
    | bl _ b =>
      refine ⟨_, rfl, by show 2 ≤ sizeLine; decide, fun tp htp => ⟨_, tp, _, _, [.type "list", .type "tuple"], _, rfl, upd_same, .cons (.ty _) (.cons (.ty _) .nil), .base (.bl b), kit2 (b1 := false) (b2 := false) (by decide +kernel) (by decide +kernel) rfl, _, rfl, iteF ?_⟩⟩
      refine ⟨_, rfl, _, _, _, _, _, rfl, .ty _, .base (.bl b), kit_ty (b := "int") (r := true) (by decide +kernel), _, rfl, iteT ?_⟩
      refine ⟨_, rfl, _, _, _, _, _, rfl, .ty _, .base (.bl b), kit_ty (b := "int") (r := true) (by decide +kernel), _, rfl, iteT ?_⟩
      refine ⟨_, rfl, _, _, _, _, _, rfl, .ty _, .base (.bl b), kit_ty (b := "bool") (r := true) (by decide +kernel), _, rfl, _, _, _, _, _, rfl, .ty _, .base (.bl b), kit_ty (b := "bool") (r := true) (by decide +kernel), rfl, _, rfl, ifD_yes rfl ?_⟩
      refine ⟨_, rfl, _, rfl, rfl, ?_⟩
      show Q (V.bl (decide (V.bl b = V.bl b))) _
      rw [decide_eq_true rfl]
      exact k _ (Same.new htp)
  | succ n ih =>
    refine D.F.ok scSame (hlen (n + 1)) (fun cdv A outer s H vs Q E hr h => ?_)
    obtain ⟨x, y, rfl, t, k⟩ := h
    cases t with
    | int _ i =>
      refine ⟨_, pss_cons (ps_if (pt_val (pe_callB call_isiT (by rfl) T.isi boot_isi (pa_cons (pv 1) (pa_cons (pe_tup (pa_cons (pe_bltn (v := .ty "list") (by rfl) T.list_ boot_list' rfl) (pa_cons (pe_bltn (v := .ty "tuple") (by rfl) T.tup_ boot_tuple' rfl) pa_nil))) pa_nil)))) pss_never pss_nil)
      (pss_cons (ps_if (pt_val (pe_callB call_isi (by rfl) T.isi boot_isi (pa_cons (pv 1) (pa_cons (pe_bltn (v := .ty "int") (by rfl) T.int_ boot_int' rfl) pa_nil))))
        (pss_one (ps_ret (pe_and (pe_callB call_isi (by rfl) T.isi boot_isi (pa_cons (pv 0) (pa_cons (pe_bltn (v := .ty "int") (by rfl) T.int_ boot_int' rfl) pa_nil)))
          (pe_and (pe_cmpR op_eq (pe_callB call_isi (by rfl) T.isi boot_isi (pa_cons (pv 0) (pa_cons (pe_bltn (v := .ty "bool") (by rfl) T.bool_ boot_bool' rfl) pa_nil))) (pe_callB call_isi (by rfl) T.isi boot_isi (pa_cons (pv 1) (pa_cons (pe_bltn (v := .ty "bool") (by rfl) T.bool_ boot_bool' rfl) pa_nil))) (nomark _))
            (pe_one (pe_cmpR op_eq (pv 0) (pv 1) (nomark _))))))) pss_nil) pss_never), ?_⟩
      refine ⟨_, rfl, by show 2 ≤ sizeLine; decide, fun tp htp => ⟨_, tp, _, _, [.type "list", .type "tuple"], _, rfl, upd_same, .cons (.ty _) (.cons (.ty _) .nil), .base (.int i), kit2 (b1 := false) (b2 := false) (by decide +kernel) (by decide +kernel) rfl, _, rfl, iteF ?_⟩⟩
      refine ⟨_, rfl, _, _, _, _, _, rfl, .ty _, .base (.int i), kit_ty (b := "int") (r := true) (by decide +kernel), _, rfl, iteT ?_⟩
      refine ⟨_, rfl, _, _, _, _, _, rfl, .ty _, .base (.int i), kit_ty (b := "int") (r := true) (by decide +kernel), _, rfl, iteT ?_⟩
      refine ⟨_, rfl, _, _, _, _, _, rfl, .ty _, .base (.int i), kit_ty (b := "bool") (r := false) (by decide +kernel), _, rfl, _, _, _, _, _, rfl, .ty _, .base (.int i), kit_ty (b := "bool") (r := false) (by decide +kernel), rfl, _, rfl, ifD_yes rfl ?_⟩
      refine ⟨_, rfl, _, rfl, rfl, ?_⟩
      show Q (V.bl (decide (V.int i = V.int i))) _
      rw [decide_eq_true rfl]
      exact k _ (Same.new htp)
    | bl _ b =>
      refine ⟨_, pss_cons (ps_if (pt_val (pe_callB call_isiT (by rfl) T.isi boot_isi (pa_cons (pv 1) (pa_cons (pe_tup (pa_cons (pe_bltn (v := .ty "list") (by rfl) T.list_ boot_list' rfl) (pa_cons (pe_bltn (v := .ty "tuple") (by rfl) T.tup_ boot_tuple' rfl) pa_nil))) pa_nil)))) pss_never pss_nil)
      (pss_cons (ps_if (pt_val (pe_callB call_isi (by rfl) T.isi boot_isi (pa_cons (pv 1) (pa_cons (pe_bltn (v := .ty "int") (by rfl) T.int_ boot_int' rfl) pa_nil))))
        (pss_one (ps_ret (pe_and (pe_callB call_isi (by rfl) T.isi boot_isi (pa_cons (pv 0) (pa_cons (pe_bltn (v := .ty "int") (by rfl) T.int_ boot_int' rfl) pa_nil)))
          (pe_and (pe_cmpR op_eq (pe_callB call_isi (by rfl) T.isi boot_isi (pa_cons (pv 0) (pa_cons (pe_bltn (v := .ty "bool") (by rfl) T.bool_ boot_bool' rfl) pa_nil))) (pe_callB call_isi (by rfl) T.isi boot_isi (pa_cons (pv 1) (pa_cons (pe_bltn (v := .ty "bool") (by rfl) T.bool_ boot_bool' rfl) pa_nil))) (nomark _))
            (pe_one (pe_cmpR op_eq (pv 0) (pv 1) (nomark _))))))) pss_nil) pss_never), ?_⟩
      refine ⟨_, rfl, by show 2 ≤ sizeLine; decide, fun tp htp => ⟨_, tp, _, _, [.type "list", .type "tuple"], _, rfl, upd_same, .cons (.ty _) (.cons (.ty _) .nil), .base (.bl b), kit2 (b1 := false) (b2 := false) (by decide +kernel) (by decide +kernel) rfl, _, rfl, iteF ?_⟩⟩
      refine ⟨_, rfl, _, _, _, _, _, rfl, .ty _, .base (.bl b), kit_ty (b := "int") (r := true) (by decide +kernel), _, rfl, iteT ?_⟩
      refine ⟨_, rfl, _, _, _, _, _, rfl, .ty _, .base (.bl b), kit_ty (b := "int") (r := true) (by decide +kernel), _, rfl, iteT ?_⟩
      refine ⟨_, rfl, _, _, _, _, _, rfl, .ty _, .base (.bl b), kit_ty (b := "bool") (r := true) (by decide +kernel), _, rfl, _, _, _, _, _, rfl, .ty _, .base (.bl b), kit_ty (b := "bool") (r := true) (by decide +kernel), rfl, _, rfl, ifD_yes rfl ?_⟩
      refine ⟨_, rfl, _, rfl, rfl, ?_⟩
      show Q (V.bl (decide (V.bl b = V.bl b))) _
      rw [decide_eq_true rfl]
      exact k _ (Same.new htp)
    | @lst _ a b xs ys ha hb hl hsz hi =>
      refine ⟨_, pss_cons (ps_if (pt_val (pe_callB call_isiT (by rfl) T.isi boot_isi (pa_cons (pv 1) (pa_cons (pe_tup (pa_cons (pe_bltn (v := .ty "list") (by rfl) T.list_ boot_list' rfl) (pa_cons (pe_bltn (v := .ty "tuple") (by rfl) T.tup_ boot_tuple' rfl) pa_nil))) pa_nil))))
      (pss_cons (ps_if (PW.pt (pw_or (pt_cmpR op_ne (pe_callB call_isi (by rfl) T.isi boot_isi (pa_cons (pv 0) (pa_cons (pe_bltn (v := .ty "list") (by rfl) T.list_ boot_list' rfl) pa_nil))) (pe_callB call_isi (by rfl) T.isi boot_isi (pa_cons (pv 1) (pa_cons (pe_bltn (v := .ty "list") (by rfl) T.list_ boot_list' rfl) pa_nil))) (nomark _)) (pw_or1 (pt_cmpR op_ne (pe_callB call_isi (by rfl) T.isi boot_isi (pa_cons (pv 0) (pa_cons (pe_bltn (v := .ty "tuple") (by rfl) T.tup_ boot_tuple' rfl) pa_nil))) (pe_callB call_isi (by rfl) T.isi boot_isi (pa_cons (pv 1) (pa_cons (pe_bltn (v := .ty "tuple") (by rfl) T.tup_ boot_tuple' rfl) pa_nil))) (nomark _))))) pss_never pss_nil)
        (pss_one (ps_ret (pe_and (pe_cmpR op_eq (pe_callB call_len_seq (by rfl) T.len_ PySem.boot_len (pa_cons (pv 0) pa_nil)) (pe_callB call_len_seq (by rfl) T.len_ PySem.boot_len (pa_cons (pv 1) pa_nil)) (nomark _))
          (pe_one (pe_callB (cr_all rfl) (by rfl) T.all_ boot_all' (pa_cons (pe_lc (own := [("_law_one", 2), ("_law_other", 3)]) (g := gTup K 2 (gCons (gName 2) (gCons (gName 3) gNil))) (tt := tYes) (by rfl) scSame.nd (pi_zipA (by rfl) T.zip_ (pa_cons (pv 0) (pa_cons (pv 1) pa_nil))) (blkOk_by (N := ["_law_found", "_law_due", "_law_one", "_law_other"]) (sc := defScope sSame) (by decide +kernel))
            (fun _ _ _ _ _ => by exact pg_tup rfl (pgs_cons (pg_name (i := 2) scSame.nd rfl (Or.inl rfl)) (pgs_cons (pg_name (i := 3) scSame.nd rfl (Or.inl rfl)) pgs_nil))) (fun _ _ _ _ _ => pts_nil)
            (fun _ _ _ _ _ => pe_call ih hr rfl D.M D.F.kp D.B .nil pass0 (pa_cons (pv 2) (pa_cons (pv 3) pa_nil)))) pa_nil))))))) pss_nil) pss_never, ?_⟩
      refine ⟨_, rfl, by show 2 ≤ sizeLine; decide, fun tp htp => ?_⟩
      have s1 : Same H (upd H tp (.tup [.ty "list", .ty "tuple"])) := Same.new htp
      have hA := s1 _ _ ha
      have hB := s1 _ _ hb
      refine ⟨_, tp, _, _, [.type "list", .type "tuple"], _, rfl, upd_same, .cons (.ty _) (.cons (.ty _) .nil), .base (.lst hB), kit2 (b1 := true) (b2 := false) (by decide +kernel) (by decide +kernel) rfl, _, rfl, iteT ?_⟩
      refine ⟨_, rfl, _, _, _, _, _, rfl, .ty _, .base (.lst hA), kit_ty (b := "list") (r := true) (by decide +kernel), _, rfl, _, _, _, _, _, rfl, .ty _, .base (.lst hB), kit_ty (b := "list") (r := true) (by decide +kernel), rfl, _, rfl, iteNS rfl ?_⟩
      refine ⟨_, rfl, _, _, _, _, _, rfl, .ty _, .base (.lst hA), kit_ty (b := "tuple") (r := false) (by decide +kernel), _, rfl, _, _, _, _, _, rfl, .ty _, .base (.lst hB), kit_ty (b := "tuple") (r := false) (by decide +kernel), rfl, _, rfl, iteNS rfl ?_⟩
      refine ⟨_, rfl, _, _, rfl, .inl (SqL.of hA), _, rfl, _, _, rfl, .inl (SqL.of hB), rfl, _, rfl, ifD_yes (by rw [hl]) ?_⟩
      refine ⟨_, rfl, _, rfl, _, _, xs, ys, rfl, .inl ⟨SqL.of hA, SqL.of hB, fun Dd hD => ?_⟩⟩
      refine lc_zipL hl (fun i H' => Same (upd H tp (.tup [.ty "list", .ty "tuple"])) H' ∧ H' Dd = some (.lst ((List.replicate i true).map V.bl))) ⟨Same.new hD, upd_same⟩ (fun i H' q => ⟨SqL.of (q.1 _ _ hA), SqL.of (q.1 _ _ hB)⟩) ?_ ?_
      · rintro i x y tt H' hx hy ⟨sm, hd⟩ ht
        refine ⟨tt, _, rfl, SqT.of upd_same, rfl, _, _, rfl, _, _, rfl, rfl, rfl, ?_⟩
        dsimp only [tYes]
        rw [if_pos rfl]
        have s2 : Same H' (upd H' tt (.tup [x, y])) := Same.new ht
        refine ⟨_, rfl, _, rfl, x, y, rfl, ((hi i x y hx hy).same s1).same (sm.trans s2), fun H2 s3 => ⟨_, s3 _ _ (s2 _ _ hd), ?_, ?_, ?_⟩⟩
        · rw [List.length_map, List.length_replicate]
          exact Nat.lt_of_lt_of_le (List.getElem?_eq_some_iff.mp hx).1 hsz
        · intro c o e
          rw [upd_ne (ne_of_none e hD)]
          exact s3 _ _ (s2 _ _ (sm _ _ e))
        · rw [upd_same, List.replicate_succ', List.map_append]
          rfl
      · rintro H' ⟨sm, hd⟩
        refine ⟨Dd, _, rfl, SqL.of hd, ?_⟩
        have ea : (List.replicate xs.length true).all id = true := by
          rw [List.all_eq_true]
          intro x hx
          rw [(List.mem_replicate.mp hx).2]
          rfl
        rw [ea]
        exact k _ (s1.trans sm)
    | @tup _ a b xs ys ha hb hl hsz hi =>
      refine ⟨_, pss_cons (ps_if (pt_val (pe_callB call_isiT (by rfl) T.isi boot_isi (pa_cons (pv 1) (pa_cons (pe_tup (pa_cons (pe_bltn (v := .ty "list") (by rfl) T.list_ boot_list' rfl) (pa_cons (pe_bltn (v := .ty "tuple") (by rfl) T.tup_ boot_tuple' rfl) pa_nil))) pa_nil))))
      (pss_cons (ps_if (PW.pt (pw_or (pt_cmpR op_ne (pe_callB call_isi (by rfl) T.isi boot_isi (pa_cons (pv 0) (pa_cons (pe_bltn (v := .ty "list") (by rfl) T.list_ boot_list' rfl) pa_nil))) (pe_callB call_isi (by rfl) T.isi boot_isi (pa_cons (pv 1) (pa_cons (pe_bltn (v := .ty "list") (by rfl) T.list_ boot_list' rfl) pa_nil))) (nomark _)) (pw_or1 (pt_cmpR op_ne (pe_callB call_isi (by rfl) T.isi boot_isi (pa_cons (pv 0) (pa_cons (pe_bltn (v := .ty "tuple") (by rfl) T.tup_ boot_tuple' rfl) pa_nil))) (pe_callB call_isi (by rfl) T.isi boot_isi (pa_cons (pv 1) (pa_cons (pe_bltn (v := .ty "tuple") (by rfl) T.tup_ boot_tuple' rfl) pa_nil))) (nomark _))))) pss_never pss_nil)
        (pss_one (ps_ret (pe_and (pe_cmpR op_eq (pe_callB call_len_seq (by rfl) T.len_ PySem.boot_len (pa_cons (pv 0) pa_nil)) (pe_callB call_len_seq (by rfl) T.len_ PySem.boot_len (pa_cons (pv 1) pa_nil)) (nomark _))
          (pe_one (pe_callB (cr_all rfl) (by rfl) T.all_ boot_all' (pa_cons (pe_lc (own := [("_law_one", 2), ("_law_other", 3)]) (g := gTup K 2 (gCons (gName 2) (gCons (gName 3) gNil))) (tt := tYes) (by rfl) scSame.nd (pi_zipA (by rfl) T.zip_ (pa_cons (pv 0) (pa_cons (pv 1) pa_nil))) (blkOk_by (N := ["_law_found", "_law_due", "_law_one", "_law_other"]) (sc := defScope sSame) (by decide +kernel))
            (fun _ _ _ _ _ => by exact pg_tup rfl (pgs_cons (pg_name (i := 2) scSame.nd rfl (Or.inl rfl)) (pgs_cons (pg_name (i := 3) scSame.nd rfl (Or.inl rfl)) pgs_nil))) (fun _ _ _ _ _ => pts_nil)
            (fun _ _ _ _ _ => pe_call ih hr rfl D.M D.F.kp D.B .nil pass0 (pa_cons (pv 2) (pa_cons (pv 3) pa_nil)))) pa_nil))))))) pss_nil) pss_never, ?_⟩
      refine ⟨_, rfl, by show 2 ≤ sizeLine; decide, fun tp htp => ?_⟩
      have s1 : Same H (upd H tp (.tup [.ty "list", .ty "tuple"])) := Same.new htp
      have hA := SqT.up ha s1
      have hB := SqT.up hb s1
      refine ⟨_, tp, _, _, [.type "list", .type "tuple"], _, rfl, upd_same, .cons (.ty _) (.cons (.ty _) .nil), tyT hB, kit2 (b1 := false) (b2 := true) (by decide +kernel) (by decide +kernel) rfl, _, rfl, iteT ?_⟩
      refine ⟨_, rfl, _, _, _, _, _, rfl, .ty _, tyT hA, kit_ty (b := "list") (r := false) (by decide +kernel), _, rfl, _, _, _, _, _, rfl, .ty _, tyT hB, kit_ty (b := "list") (r := false) (by decide +kernel), rfl, _, rfl, iteNS rfl ?_⟩
      refine ⟨_, rfl, _, _, _, _, _, rfl, .ty _, tyT hA, kit_ty (b := "tuple") (r := true) (by decide +kernel), _, rfl, _, _, _, _, _, rfl, .ty _, tyT hB, kit_ty (b := "tuple") (r := true) (by decide +kernel), rfl, _, rfl, iteNS rfl ?_⟩
      refine ⟨_, rfl, _, _, rfl, .inr (hA), _, rfl, _, _, rfl, .inr (hB), rfl, _, rfl, ifD_yes (by rw [hl]) ?_⟩
      refine ⟨_, rfl, _, rfl, _, _, xs, ys, rfl, .inr ⟨hA, hB, fun Dd hD => ?_⟩⟩
      refine lc_zipT hl (fun i H' => Same (upd H tp (.tup [.ty "list", .ty "tuple"])) H' ∧ H' Dd = some (.lst ((List.replicate i true).map V.bl))) ⟨Same.new hD, upd_same⟩ (fun i H' q => ⟨SqT.up hA q.1, SqT.up hB q.1⟩) ?_ ?_
      · rintro i x y tt H' hx hy ⟨sm, hd⟩ ht
        refine ⟨tt, _, rfl, SqT.of upd_same, rfl, _, _, rfl, _, _, rfl, rfl, rfl, ?_⟩
        dsimp only [tYes]
        rw [if_pos rfl]
        have s2 : Same H' (upd H' tt (.tup [x, y])) := Same.new ht
        refine ⟨_, rfl, _, rfl, x, y, rfl, ((hi i x y hx hy).same s1).same (sm.trans s2), fun H2 s3 => ⟨_, s3 _ _ (s2 _ _ hd), ?_, ?_, ?_⟩⟩
        · rw [List.length_map, List.length_replicate]
          exact Nat.lt_of_lt_of_le (List.getElem?_eq_some_iff.mp hx).1 hsz
        · intro c o e
          rw [upd_ne (ne_of_none e hD)]
          exact s3 _ _ (s2 _ _ (sm _ _ e))
        · rw [upd_same, List.replicate_succ', List.map_append]
          rfl
      · rintro H' ⟨sm, hd⟩
        refine ⟨Dd, _, rfl, SqL.of hd, ?_⟩
        have ea : (List.replicate xs.length true).all id = true := by
          rw [List.all_eq_true]
          intro x hx
          rw [(List.mem_replicate.mp hx).2]
          rfl
        rw [ea]
        exact k _ (s1.trans sm)
end
end PA

set_option maxHeartbeats 4000000
namespace PA
open PySem L2 RZ
open C8 (pss_cut tCut)
abbrev sStr : Stmt := inClass (top 30) 6
abbrev sRowsTx : Stmt := top 35
abbrev sRowTx : Stmt := top 36
abbrev sStartsTx : Stmt := top 37
def intS (i : Int) : Str := Str.ofString (toString i)
def fallS (b : Bool) : Str := if b = true then "fall" else "stay"
def goS (b : Bool) : Str := if b = true then "go" else "stay"
def rowTx (r : Rw) : Str := (((((((Str.empty ++ intS r.1) ++ (" " : Str)) ++ fallS r.2.1) ++ (" " : Str)) ++ intS r.2.2.1) ++ (" " : Str)) ++ goS r.2.2.2)
def rowsTx (rows : List Rw) : Str := Txt.join "; " (rows.map rowTx)
def wordsTx (starts : List Int) : Str := Txt.join " " (starts.map intS)
def startsTx (starts : List Int) : Str := if starts = [0] then "" else (Str.empty ++ (" | " : Str)) ++ wordsTx starts
def ruleTx (rows : List Rw) (starts : List Int) : Str := (Str.empty ++ rowsTx rows) ++ startsTx starts
theorem app_le {x y : Str} {m n : Nat} (hx : x.length ≤ m) (hy : y.length ≤ n) : (x ++ y).length ≤ m + n := by
  rw [Str.length_append]
  omega
theorem small_log {i : Int} (h0 : 0 ≤ i) (h1 : i < 48) : i.natAbs.log2 < 1920 := by
  have e : (2 : Nat) ^ 6 = 64 := by decide
  have h : i.natAbs < 2 ^ 6 := by
    rw [e]
    omega
  have h2 : i.natAbs.log2 < 6 := PySem.Flt.log2_lt_of (by decide) h
  exact Nat.lt_of_lt_of_le h2 (by decide)
theorem intS_le {i : Int} (h0 : 0 ≤ i) (h1 : i < 48) : (intS i).length ≤ 1921 := by
  have e := int_text_length_le (k := 1920) (by decide) (small_log h0 h1)
  unfold intS
  rw [ofString_length]
  exact e
theorem fallS_le (b : Bool) : (fallS b).length ≤ 4 := by cases b <;> decide +kernel
theorem goS_le (b : Bool) : (goS b).length ≤ 4 := by cases b <;> decide +kernel
theorem sp_le : (" " : Str).length ≤ 1 := by decide +kernel
theorem em_le : (Str.empty).length ≤ 0 := by decide +kernel
def spRowTx : Sp := fun vs H Q _ => ∃ (c : Addr) (r : Rw), vs = [.ref c] ∧ isT H c r ∧ RwOk 48 r ∧ Q (.str (rowTx r)) H
section
variable {P : Program} {w : World} {K : PySem.W.Frag} {mg : Str → Option Value} {base : Heap} {C : Addr}
theorem scRowTx : FnScope ["row", "next_ahead", "falls", "next_behind", "goes", "first", "second"] ["row"] (defScope sRowTx) := ⟨rfl, rfl, rfl, by decide +kernel, rfl, by decide +kernel, by decide +kernel⟩
theorem ok_rowTx {f : Addr} {fd : FuncData} (F : Fun K "_row_text" "_row_text" sRowTx f fd) : FnOk P w K mg base CX0 1 f fd ["row"] spRowTx := by
  refine F.ok scRowTx (fun vs H Q E h => ?_) (fun cdv A outer s H vs Q E hr h => ?_)
  · obtain ⟨c, _, rfl, _⟩ := h
    rfl
  · obtain ⟨c, ⟨ra, rb, rc, rd⟩, rfl, hc, ⟨⟨a0, a1⟩, c0, c1⟩, kk⟩ := h
    refine ⟨_, pss_cons (ps_asg (pv 0) (pg_tup rfl (pgs_cons (pg_name (i := 1) scRowTx.nd rfl (Or.inl rfl)) (pgs_cons (pg_name (i := 2) scRowTx.nd rfl (Or.inl rfl)) (pgs_cons (pg_name (i := 3) scRowTx.nd rfl (Or.inl rfl)) (pgs_cons (pg_name (i := 4) scRowTx.nd rfl (Or.inl rfl)) pgs_nil))))))
      (pss_cut (ps_set (i := 5) scRowTx.nd rfl (Or.inl rfl) (pe_ifExp (pt_val (pv 2)) pe_str pe_str))
      (pss_cut (ps_set (i := 6) scRowTx.nd rfl (Or.inl rfl) (pe_ifExp (pt_val (pv 4)) pe_str pe_str))
      (pss_one (ps_ret (pe_joined (.cons (pe_fmt (pv 1)) (.cons pe_str (.cons (pe_fmt (pv 5)) (.cons pe_str (.cons (pe_fmt (pv 3)) (.cons pe_str (.cons (pe_fmt (pv 6)) .nil)))))))))))), ?_⟩
    refine ⟨_, rfl, c, _, rfl, SqT.of hc, rfl, _, _, rfl, _, _, rfl, _, _, rfl, _, _, rfl, rfl, ?_⟩
    refine ⟨fun σ' H' => H' = H ∧ σ' = [some (V.ref c), some (V.int ra), some (V.bl rb), some (V.int rc), some (V.bl rd), some (V.str (fallS rb)), none], ?_, ?_⟩
    · refine ⟨_, rfl, rb, rfl, ?_⟩
      cases rb with
      | true => exact iteT ⟨rfl, rfl⟩
      | false => exact iteF ⟨rfl, rfl⟩
    rintro _ H1 ⟨e1, rfl⟩
    subst e1
    refine ⟨fun σ' H' => H' = H1 ∧ σ' = [some (V.ref c), some (V.int ra), some (V.bl rb), some (V.int rc), some (V.bl rd), some (V.str (fallS rb)), some (V.str (goS rd))], ?_, ?_⟩
    · refine ⟨_, rfl, rd, rfl, ?_⟩
      cases rd with
      | true => exact iteT ⟨rfl, rfl⟩
      | false => exact iteF ⟨rfl, rfl⟩
    rintro _ H2 ⟨e2, rfl⟩
    subst e2
    have q1 := app_le em_le (intS_le a0 a1)
    have q2 := app_le q1 sp_le
    have q3 := app_le q2 (fallS_le rb)
    have q4 := app_le q3 sp_le
    have q5 := app_le q4 (intS_le c0 c1)
    have q6 := app_le q5 sp_le
    have q7 := app_le q6 (goS_le rd)
    have big : ∀ {n : Nat}, n ≤ 4000 → n ≤ sizeLine := fun h => Nat.le_trans h (by decide)
    refine ⟨_, rfl, .inr ⟨ra, rfl, small_log a0 a1, _, rfl, big (Nat.le_trans q1 (by decide)), ?_⟩⟩
    refine ⟨_, rfl, big (Nat.le_trans q2 (by decide)), ?_⟩
    refine ⟨_, rfl, .inl ⟨_, rfl, big (Nat.le_trans (fallS_le rb) (by decide)), _, rfl, big (Nat.le_trans q3 (by decide)), ?_⟩⟩
    refine ⟨_, rfl, big (Nat.le_trans q4 (by decide)), ?_⟩
    refine ⟨_, rfl, .inr ⟨rc, rfl, small_log c0 c1, _, rfl, big (Nat.le_trans q5 (by decide)), ?_⟩⟩
    refine ⟨_, rfl, big (Nat.le_trans q6 (by decide)), ?_⟩
    refine ⟨_, rfl, .inl ⟨_, rfl, big (Nat.le_trans (goS_le rd) (by decide)), _, rfl, big (Nat.le_trans q7 (by decide)), ?_⟩⟩
    exact kk
end
end PA

set_option maxHeartbeats 4000000
namespace PA
open PySem L2 RZ
open C8 (pss_cut tCut)
/-- what the texts of rules ask of the module -/
structure TxtS (K : PySem.W.Frag) (mg : Str → Option Value) : Prop where
  str_ : mg "str" = none
  plain : ∃ dp, mg "PLAIN_STARTS" = some (.ref dp) ∧ ∀ H, SqT K H dp [V.int 0]
def spRowsTx : Sp := fun vs H Q _ => ∃ (R : Addr) (refs : List V) (rows : List Rw), vs = [.ref R] ∧ H R = some (.tup refs) ∧ Each H isT refs rows ∧ rows.length ≤ 48 ∧ (∀ r ∈ rows, RwOk 48 r) ∧ ∀ H', Same H H' → Q (.str (rowsTx rows)) H'
def spStartsTx (K : PySem.W.Frag) : Sp := fun vs H Q _ => ∃ (S : Addr) (starts : List Int), vs = [.ref S] ∧ SqT K H S (starts.map V.int) ∧ starts.length ≤ 16 ∧ (∀ s ∈ starts, 0 ≤ s ∧ s < 48) ∧ ∀ H', Same H H' → Q (.str (startsTx starts)) H'
def spStr (K : PySem.W.Frag) (C : Addr) : Sp := fun vs H Q _ => ∃ (p : Addr) (rows : List Rw) (starts : List Int) (k : Int), vs = [.ref p] ∧ RuleAt K C H p rows starts k ∧ rows.length ≤ 48 ∧ (∀ r ∈ rows, RwOk 48 r) ∧ starts.length ≤ 16 ∧ (∀ s ∈ starts, 0 ≤ s ∧ s < 48) ∧ ∀ H', Same H H' → Q (.str (ruleTx rows starts)) H'
theorem rowTx_le {r : Rw} (h : RwOk 48 r) : (rowTx r).length ≤ 4000 := by
  obtain ⟨ra, rb, rc, rd⟩ := r
  obtain ⟨⟨a0, a1⟩, c0, c1⟩ := h
  have q1 := app_le em_le (intS_le a0 a1)
  have q2 := app_le q1 sp_le
  have q3 := app_le q2 (fallS_le rb)
  have q4 := app_le q3 sp_le
  have q5 := app_le q4 (intS_le c0 c1)
  have q6 := app_le q5 sp_le
  have q7 := app_le q6 (goS_le rd)
  exact Nat.le_trans q7 (by decide)
theorem sum_le {m : Nat} : ∀ ys : List Str, (∀ y ∈ ys, y.length ≤ m) → (ys.map (·.length)).sum ≤ ys.length * m
  | [], _ => by simp
  | y :: ys, h => by
    have h1 := sum_le ys fun z hz => h z (List.mem_cons_of_mem _ hz)
    have h2 := h y List.mem_cons_self
    simp only [List.map_cons, List.sum_cons, List.length_cons, Nat.add_mul, Nat.one_mul]
    omega
section
variable {P : Program} {w : World} {K : PySem.W.Frag} {mg : Str → Option Value} {base : Heap} {C : Addr}
theorem scRowsTx : FnScope ["rows", "row"] ["rows"] (defScope sRowsTx) := ⟨rfl, rfl, rfl, by decide +kernel, rfl, by decide +kernel, by decide +kernel⟩
theorem ok_rowsTx {f g : Addr} {fd gd : FuncData} (F : Fun K "_rows_text" "_rows_text" sRowsTx f fd) (D : Df K mg "_row_text" sRowTx g gd ["row"]) : FnOk P w K mg base CX0 2 f fd ["rows"] spRowsTx := by
  have G : FnOk P w K mg base CX0 1 g gd ["row"] spRowTx := ok_rowTx D.F
  refine F.ok scRowsTx (fun vs H Q E h => ?_) (fun cdv A outer s H vs Q E hr h => ?_)
  · obtain ⟨R, _, _, rfl, _⟩ := h
    rfl
  · obtain ⟨R, refs, rows, rfl, hR, hE, h48, hok, kk⟩ := h
    have hlr : refs.length = rows.length := hE.1
    refine ⟨_, pss_one (ps_ret (pe_join pe_str (pe_lc (own := [("row", 1)]) (g := gName 1) (tt := tYes) (by rfl) scRowsTx.nd (pi_tup (pv 0)) (blkOk_by (N := ["rows", "row"]) (sc := defScope sRowsTx) (by decide +kernel))
          (fun _ _ _ _ _ => pg_name (i := 1) scRowsTx.nd rfl (Or.inl rfl)) (fun _ _ _ _ _ => pts_nil)
          (fun _ _ _ _ _ => pe_call G hr rfl D.M D.F.kp D.B .nil pass0 (pa_cons (pv 1) pa_nil))))), ?_⟩
    refine ⟨⟨_, rfl⟩, _, rfl, R, rfl, ⟨_, SqT.of hR⟩, fun Dd hD => ?_⟩
    refine lc_tup (K := K) (a := R) (xs := refs) (fun i H' => Same H H' ∧ H' Dd = some (.lst (((rows.take i).map rowTx).map V.str))) ⟨Same.new hD, by rw [List.take_zero]; exact upd_same⟩ (fun i H' _ q => SqT.of (q.1 _ _ hR)) ?_ ?_
    · rintro i x H' hx ⟨sm, hd⟩
      have hi : i < rows.length := by rw [← hlr]; exact (List.getElem?_eq_some_iff.mp hx).1
      have hr' : rows[i]? = some rows[i] := List.getElem?_eq_getElem hi
      obtain ⟨c, rfl, hc⟩ := hE.2 i x _ hx hr'
      refine ⟨rfl, ?_⟩
      dsimp only [tYes]
      rw [if_pos rfl]
      refine ⟨_, rfl, c, rows[i], rfl, sm _ _ hc, hok _ (List.getElem_mem hi), _, hd, ?_, ?_, ?_⟩
      · rw [List.length_map, List.length_map, List.length_take]
        exact Nat.lt_of_le_of_lt (Nat.le_trans (Nat.min_le_left _ _) (Nat.le_of_lt hi)) (Nat.lt_of_le_of_lt h48 (by decide))
      · intro c' o e
        rw [upd_ne (ne_of_none e hD)]
        exact sm _ _ e
      · rw [upd_same, take_succ' hr', List.map_append, List.map_append]
        rfl
    · rintro H1 ⟨s1, hd⟩
      rw [hlr, List.take_length] at hd
      refine ⟨_, Dd, rows.map rowTx, rfl, rfl, .inl (SqL.of hd), ?_, kk H1 s1⟩
      have h1 := sum_le (m := 4000) (rows.map rowTx) fun y hy => by
        obtain ⟨r, hr, rfl⟩ := List.mem_map.mp hy
        exact rowTx_le (hok r hr)
      rw [List.length_map] at h1 ⊢
      have h2 : ("; " : Str).length = 2 := by decide +kernel
      rw [h2]
      omega
end
end PA

set_option maxHeartbeats 4000000
namespace PA
open PySem L2 RZ
open C8 (pss_cut tCut)
theorem intsT_shaped (ns : List Int) : SeqAt.shaped (.tuple (ns.map PyData.int)) = true := by
  have h1 := ints_depth ns
  have h2 : PyData.depth (.tuple (ns.map PyData.int)) ≤ 64 := by
    simp only [PyData.depth]
    omega
  show (PyData.canLay0 (.tuple (ns.map PyData.int)) && decide (PyData.depth (.tuple (ns.map PyData.int)) ≤ 64)) = true
  rw [Bool.and_eq_true]
  exact ⟨by simp only [PyData.canLay0]; exact ints_lay ns, decide_eq_true h2⟩
theorem intsT_zero (ns : List Int) : PyData.eqv (.tuple (ns.map PyData.int)) (.tuple [.int 0]) = decide (ns = [0]) := by
  cases ns with
  | nil => simp [PyData.eqv, PyData.eqvAll]
  | cons z zs =>
    cases zs with
    | nil =>
      by_cases hz : z = 0
      · subst hz; simp [PyData.eqv, PyData.eqvAll]
      · simp [PyData.eqv, PyData.eqvAll, hz]
    | cons y ys => simp [PyData.eqv, PyData.eqvAll]
theorem boot_str' : bootBuiltins "str" = some (.type "str") := by decide +kernel
def rStrK : List V → Hp → (V → Hp → Prop) → Prop := fun xs H Q => ∃ i : Int, xs = [.int i] ∧ i.natAbs.log2 < 1920 ∧ Q (.str (intS i)) H
theorem words_le {starts : List Int} (h16 : starts.length ≤ 16) (hst : ∀ s ∈ starts, 0 ≤ s ∧ s < 48) : ((starts.map intS).map (·.length)).sum + (starts.map intS).length * (" " : Str).length ≤ 40000 := by
  have h1 := sum_le (m := 1921) (starts.map intS) fun y hy => by
    obtain ⟨r, hr, rfl⟩ := List.mem_map.mp hy
    exact intS_le (hst r hr).1 (hst r hr).2
  rw [List.length_map] at h1 ⊢
  have h2 : (" " : Str).length = 1 := by decide +kernel
  rw [h2]
  omega
theorem join_le (sep : Str) (ys : List Str) : (Txt.join sep ys).length ≤ (ys.map (·.length)).sum + ys.length * sep.length := by
  unfold Txt.join
  rw [StrLaws.glued_eq_join]
  exact StrLaws.join_length_le sep ys
section
variable {P : Program} {w : World} {K : PySem.W.Frag} {mg : Str → Option Value} {base : Heap} {C : Addr}
theorem scStartsTx : FnScope ["starts", "words", "state"] ["starts"] (defScope sStartsTx) := ⟨rfl, rfl, rfl, by decide +kernel, rfl, by decide +kernel, by decide +kernel⟩
theorem ok_startsTx {f : Addr} {fd : FuncData} (F : Fun K "_starts_text" "_starts_text" sStartsTx f fd) (TS : TxtS K mg) : FnOk P w K mg base CX0 1 f fd ["starts"] (spStartsTx K) := by
  obtain ⟨dp, hdp, hpl⟩ := TS.plain
  refine F.ok scStartsTx (fun vs H Q E h => ?_) (fun cdv A outer s H vs Q E hr h => ?_)
  · obtain ⟨S, _, rfl, _⟩ := h
    rfl
  · obtain ⟨S, starts, rfl, hS, h16, hst, kk⟩ := h
    refine ⟨_, pss_cons (ps_if (pt_cmpR (op_eqD hr.units) (pv 0) (pe_glob (v := .ref dp) rfl hdp rfl) (nomark _)) (pss_one (ps_ret pe_str)) pss_nil)
      (pss_cons (ps_set (i := 1) scStartsTx.nd rfl (Or.inl rfl) (pe_join pe_str (pe_lc (own := [("state", 2)]) (g := gName 2) (tt := tYes) (by rfl) scStartsTx.nd (pi_tup (pv 0)) (blkOk_by (N := ["starts", "words", "state"]) (sc := defScope sStartsTx) (by decide +kernel))
          (fun _ _ _ _ _ => pg_name (i := 2) scStartsTx.nd rfl (Or.inl rfl)) (fun _ _ _ _ _ => pts_nil)
          (fun _ _ _ _ _ => pe_callTy call_str_int (by rfl) TS.str_ boot_str' (pa_cons (pv 2) pa_nil)))))
      (pss_one (ps_ret (pe_joined (.cons pe_str (.cons (pe_fmt (pv 1)) .nil)))))), ?_⟩
    refine ⟨_, rfl, .tuple (starts.map PyData.int), .tuple [.int 0], .tup hS (dp_ints starts), .tup (hpl H) (.cons (.int 0) .nil), intsT_shaped starts, intsT_shaped [0], _, rfl, ?_⟩
    rw [intsT_zero]
    refine ifD_2 (fun hz => ?_) (fun hz => ?_)
    · have := kk H fun _ _ e => e
      unfold startsTx at this
      rw [if_pos hz] at this
      exact this
    · refine ⟨⟨_, rfl⟩, _, rfl, S, rfl, ⟨_, hS⟩, fun Dd hD => ?_⟩
      refine lc_tup (K := K) (a := S) (xs := starts.map V.int) (fun i H' => Same H H' ∧ H' Dd = some (.lst (((starts.take i).map intS).map V.str))) ⟨Same.new hD, by rw [List.take_zero]; exact upd_same⟩ (fun i H' _ q => SqT.up hS q.1) ?_ ?_
      · rintro i x H' hx ⟨sm, hd⟩
        rw [List.getElem?_map, Option.map_eq_some_iff] at hx
        obtain ⟨z, hz', rfl⟩ := hx
        have hzz := hst z (List.mem_of_getElem? hz')
        refine ⟨rfl, ?_⟩
        dsimp only [tYes]
        rw [if_pos rfl]
        refine ⟨_, rfl, z, rfl, small_log hzz.1 hzz.2, _, hd, ?_, ?_, ?_⟩
        · rw [List.length_map, List.length_map, List.length_take]
          exact Nat.lt_of_le_of_lt (Nat.le_trans (Nat.min_le_right _ _) h16) (by decide)
        · intro c' o e
          rw [upd_ne (ne_of_none e hD)]
          exact sm _ _ e
        · rw [upd_same, take_succ' hz', List.map_append, List.map_append]
          rfl
      · rintro H1 ⟨s1, hd⟩
        rw [List.length_map, List.take_length] at hd
        have hw := words_le h16 hst
        refine ⟨_, Dd, starts.map intS, rfl, rfl, .inl (SqL.of hd), Nat.le_trans hw (by decide), ?_⟩
        have hj := join_le " " (starts.map intS)
        have h3 : (" | " : Str).length ≤ 3 := by decide +kernel
        have big : ∀ {n : Nat}, n ≤ 60000 → n ≤ sizeLine := fun h => Nat.le_trans h (by decide)
        have q1 := app_le em_le h3
        have q2 := app_le q1 (Nat.le_trans hj hw)
        refine ⟨_, rfl, big (Nat.le_trans q1 (by decide)), ?_⟩
        refine ⟨_, rfl, .inl ⟨_, rfl, big (Nat.le_trans (Nat.le_trans hj hw) (by decide)), _, rfl, big (Nat.le_trans q2 (by decide)), ?_⟩⟩
        have := kk H1 s1
        unfold startsTx at this
        rw [if_neg hz] at this
        exact this
theorem rows_le {rows : List Rw} (h48 : rows.length ≤ 48) (hok : ∀ r ∈ rows, RwOk 48 r) : (rowsTx rows).length ≤ 200000 := by
  have h := join_le "; " (rows.map rowTx)
  have h1 := sum_le (m := 4000) (rows.map rowTx) fun y hy => by
    obtain ⟨r, hr, rfl⟩ := List.mem_map.mp hy
    exact rowTx_le (hok r hr)
  rw [List.length_map] at h h1
  have h2 : ("; " : Str).length = 2 := by decide +kernel
  rw [h2] at h
  show (Txt.join "; " (rows.map rowTx)).length ≤ _
  omega
theorem starts_le {starts : List Int} (h16 : starts.length ≤ 16) (hst : ∀ s ∈ starts, 0 ≤ s ∧ s < 48) : (startsTx starts).length ≤ 40003 := by
  unfold startsTx
  by_cases hz : starts = [0]
  · rw [if_pos hz]
    exact Nat.zero_le _
  · rw [if_neg hz]
    have h3 : (" | " : Str).length ≤ 3 := by decide +kernel
    have q := app_le (app_le em_le h3) (Nat.le_trans (join_le " " (starts.map intS)) (words_le h16 hst))
    exact Nat.le_trans q (by decide)
theorem scStr : FnScope ["self"] ["self"] (defScope sStr) := ⟨rfl, rfl, rfl, by decide +kernel, rfl, by decide +kernel, by decide +kernel⟩
theorem ok_str {f g1 g2 g3 : Addr} {fd gd1 gd2 gd3 : FuncData} (F : Fun K "__str__" "Rule.__str__" sStr f fd) (T : Txt K mg C) (TS : TxtS K mg) (D1 : Df K mg "_rows_text" sRowsTx g1 gd1 ["rows"]) (D2 : Df K mg "_row_text" sRowTx g2 gd2 ["row"]) (D3 : Df K mg "_starts_text" sStartsTx g3 gd3 ["starts"]) : FnOk P w K mg base CX0 3 f fd ["self"] (spStr K C) := by
  have G1 : FnOk P w K mg base CX0 2 g1 gd1 ["rows"] spRowsTx := ok_rowsTx D1.F D2
  have G3 : FnOk P w K mg base CX0 1 g3 gd3 ["starts"] (spStartsTx K) := ok_startsTx D3.F TS
  refine F.ok scStr (fun vs H Q E h => ?_) (fun cdv A outer s H vs Q E hr h => ?_)
  · obtain ⟨p, _, _, _, rfl, _⟩ := h
    rfl
  · obtain ⟨p, rows, starts, k, rfl, ra, h48, hok, h16, hst, kk⟩ := h
    have hr1 : Room 1 _ := hr.mono (by decide)
    obtain ⟨dx, R, S, refs, hp, hR, hE, hS⟩ := ra
    refine ⟨_, pss_one (ps_ret (pe_joined (.cons (pe_fmt (pe_call G1 hr rfl D1.M D1.F.kp D1.B .nil pass0 (pa_cons (pe_fld (pv 0) rfl) pa_nil))) (.cons (pe_fmt (pe_call G3 hr1 rfl D3.M D3.F.kp D3.B .nil pass0 (pa_cons (pe_fld (pv 0) rfl) pa_nil))) .nil)))), ?_⟩
    have big : ∀ {n : Nat}, n ≤ 300000 → n ≤ sizeLine := fun h => Nat.le_trans h (by decide)
    have q1 := app_le em_le (rows_le h48 hok)
    have q2 := app_le q1 (starts_le h16 hst)
    refine ⟨_, rfl, p, C, dx, _, _, rfl, hp, T.cl, T.nR, rf_rows _ _ _, R, refs, rows, rfl, hR, hE, h48, hok, fun H1 s1 => ?_⟩
    refine .inl ⟨_, rfl, big (Nat.le_trans (rows_le h48 hok) (by decide)), _, rfl, big (Nat.le_trans q1 (by decide)), ?_⟩
    refine ⟨_, rfl, p, C, dx, _, _, rfl, s1 _ _ hp, T.cl, T.nS, rf_starts _ _ _, S, starts, rfl, SqT.up hS s1, h16, hst, fun H2 s2 => ?_⟩
    refine .inl ⟨_, rfl, big (Nat.le_trans (starts_le h16 hst) (by decide)), _, rfl, big (Nat.le_trans q2 (by decide)), ?_⟩
    exact kk H2 (s1.trans s2)
end
end PA

set_option maxHeartbeats 4000000
namespace PA
open PySem L2 RZ
open C8 (pss_cut tCut)
theorem atI_nat {α : Type} {xs : List α} {i : Nat} {x : α} (h : xs[i]? = some x) : atI xs (i : Int) = some x := by
  unfold atI
  rw [Evl.ixN_nat (List.getElem?_eq_some_iff.mp h).1]
  exact h
theorem StreamAt.ne {H : Hp} {a l p : Addr} {n : Nat} (S : StreamAt H a l n) (h : H p = none) : p ≠ a ∧ p ≠ l := by
  obtain ⟨ne, ns, x, z, h1, h2, _⟩ := S
  exact ⟨(ne_of_none h1 h).symm, (ne_of_none h2 h).symm⟩
theorem sm48 {z : Int} (h1 : 1 ≤ z) (h2 : z ≤ 48) : Sm 9000 z := by
  refine sm9000 (n := 6) ?_ (by decide)
  have e : (2 : Nat) ^ 6 = 64 := by decide
  show z.natAbs < 2 ^ 6
  rw [e]
  omega
theorem isT.kp {H H' : Hp} {a l c : Addr} {n : Nat} {r : Rw} (q : isT H c r) (S : StreamAt H a l n) (k : Keep a l H H') : isT H' c r := by
  obtain ⟨ne, ns, x, z, h1, h2, _⟩ := S
  exact k _ _ (ne_of (H := H) q h1 (by intro z; cases z)) (ne_of (H := H) q h2 (by intro z; cases z)) q
theorem StreamAt.at_ {H : Hp} {a l : Addr} {n m : Nat} (S : StreamAt H a l n) (e : n = m) : StreamAt H a l m := e ▸ S
theorem StreamAt.lst {H : Hp} {a l p : Addr} {n : Nat} {xs ys : List V} (S : StreamAt H a l n) (hp : H p = some (.lst xs)) (pa : p ≠ a) (pl : p ≠ l) : StreamAt (upd H p (.lst ys)) a l n := by
  obtain ⟨ne, ns, x, z, h1, h2, h3⟩ := S
  exact ⟨ne, ns, x, z, by rw [upd_ne pa.symm]; exact h1, by rw [upd_ne pl.symm]; exact h2, h3⟩
def spTable : Sp := fun vs H Q _ => ∃ (a l : Addr) (n : Nat) (most marks : Int), vs = [.ref a, .int most, .int marks] ∧ StreamAt H a l n ∧ n ≤ 1000 ∧ 1 ≤ most ∧ most ≤ 48 ∧ 1 ≤ marks ∧ marks ≤ 4 ∧
  ∀ (t R S : Addr) (refs : List V) (rows : List Rw) (starts : List Int) (k : Int) (n' : Nat) (H' : Hp), H' t = some (.tup [.ref R, .ref S, .int k]) → H' R = some (.lst refs) → Each H' isT refs rows → H' S = some (.lst (starts.map V.int)) → Good rows starts k →
    StreamAt H' a l n' → n' ≤ n + 300 → Keep a l H H' → R ≠ a → R ≠ l → S ≠ a → S ≠ l → H R = none → H S = none → Q (.ref t) H'
section
variable {P : Program} {w : World} {K : PySem.W.Frag} {mg : Str → Option Value} {base : Heap} {C : Addr}
theorem scTable : FnScope ["_law_stream", "_law_most", "_law_marks", "_law_size", "_law_many", "_law_rows", "_law_k", "_law_low", "_law_high"] ["_law_stream", "_law_most", "_law_marks"] (defScope sTable) := ⟨rfl, rfl, rfl, by decide +kernel, rfl, by decide +kernel, by decide +kernel⟩
theorem ok_table {f g : Addr} {fd gd : FuncData} (F : Fun K "_law_m_table" "_law_m_table" sTable f fd) (T : Txt K mg C) (D : Df K mg "_law_draw" sDraw g gd ["_law_stream", "_law_many"]) : FnOk P w K mg base CX0 2 f fd ["_law_stream", "_law_most", "_law_marks"] spTable := by
  have G : FnOk P w K mg base CX0 1 g gd ["_law_stream", "_law_many"] spDraw := ok_draw D.F T
  refine F.ok scTable (fun vs H Q E h => ?_) (fun cdv A outer s H vs Q E hr h => ?_)
  · obtain ⟨a, l, n, _, _, rfl, _⟩ := h
    rfl
  · obtain ⟨a, l, n, most, marks, rfl, S0, hn, m1, m48, k1, k4, kk⟩ := h
    refine ⟨_, pss_cut (ps_asg (pe_tup (pa_cons (pe_op op_add pe_int (pe_call G hr rfl D.M D.F.kp D.B .nil pass0 (pa_cons (pv 0) (pa_cons (pv 1) pa_nil)))) (pa_cons (pe_op op_add pe_int (pe_call G hr rfl D.M D.F.kp D.B .nil pass0 (pa_cons (pv 0) (pa_cons (pv 2) pa_nil)))) pa_nil)))
        (pg_tup rfl (pgs_cons (pg_name (i := 3) scTable.nd rfl (Or.inr rfl)) (pgs_cons (pg_name (i := 4) scTable.nd rfl (Or.inl rfl)) pgs_nil))))
      (pss_cons (ps_set (i := 5) scTable.nd rfl (Or.inl rfl) (pe_lst pa_nil))
      (pss_cut (ps_for PassesOwn.never rfl (pi_range1 (by rfl) T.range_ (pa_cons (pv 3) pa_nil)) (pg_name (i := 6) scTable.nd rfl (Or.inl rfl))
        (pss_cons (ps_par (i := 7) (j := 8) (by rfl) scTable.nd rfl rfl (by decide) rfl rfl (pa_cons (pe_call G hr rfl D.M D.F.kp D.B .nil pass0 (pa_cons (pv 0) (pa_cons (pv 3) pa_nil))) (pa_cons (pe_call G hr rfl D.M D.F.kp D.B .nil pass0 (pa_cons (pv 0) (pa_cons (pv 3) pa_nil))) pa_nil)) (by rfl))
        (pss_one (ps_expr (pe_bm PySem.F.plainAttrs_list PySem.F.slot_list_append PySem.F.type_list_append mt_append (pv 5) (pa_cons (pe_tup (pa_cons (pv 7) (pa_cons (pe_cmpR op_eq (pe_call G hr rfl D.M D.F.kp D.B .nil pass0 (pa_cons (pv 0) (pa_cons pe_int pa_nil))) pe_int (nomark _)) (pa_cons (pv 8) (pa_cons (pe_cmpR op_eq (pe_call G hr rfl D.M D.F.kp D.B .nil pass0 (pa_cons (pv 0) (pa_cons pe_int pa_nil))) pe_int (nomark _)) pa_nil))))) pa_nil))))))
      (pss_one (ps_ret (pe_tup (pa_cons (pv 5) (pa_cons (pe_lc (own := [("_law_k", 6)]) (g := gName 6) (tt := tYes) (by rfl) scTable.nd (pi_range1 (by rfl) T.range_ (pa_cons (pe_op op_mul (pv 4) (pv 4)) pa_nil)) (blkOk_by (N := ["_law_stream", "_law_most", "_law_marks", "_law_size", "_law_many", "_law_rows", "_law_k", "_law_low", "_law_high"]) (sc := defScope sTable) (by decide +kernel))
          (fun _ _ _ _ _ => pg_name (i := 6) scTable.nd rfl (Or.inl rfl)) (fun _ _ _ _ _ => pts_nil)
          (fun _ _ _ _ _ => pe_call G hr rfl D.M D.F.kp D.B .nil pass0 (pa_cons (pv 0) (pa_cons (pv 3) pa_nil)))) (pa_cons (pv 4) pa_nil)))))))), ?_⟩
    have e24 := @sm48
    refine ⟨fun σ' H' => ∃ (sz mn : Nat), 1 ≤ sz ∧ sz ≤ 48 ∧ 1 ≤ mn ∧ mn ≤ 4 ∧ σ' = [some (V.ref a), some (V.int most), some (V.int marks), some (V.int (sz : Int)), some (V.int (mn : Int)), none, none, none, none] ∧ StreamAt H' a l (n + 2) ∧ Keep a l H H', ?_, ?_⟩
    · refine ⟨_, rfl, _, rfl, a, l, n, most, rfl, S0, by omega, by omega, e24 m1 m48, fun r1 H1 r10 r11 S1 kp1 => ⟨_, _, rfl, rfl, ?_⟩⟩
      refine ⟨_, rfl, _, rfl, a, l, n + 1, marks, rfl, S1, by omega, by omega, e24 k1 (by omega), fun r2 H2 r20 r21 S2 kp2 => ⟨_, _, rfl, rfl, by show 2 ≤ sizeLine; decide, fun tp htp => ?_⟩⟩
      refine ⟨tp, _, rfl, SqT.of upd_same, rfl, _, _, rfl, _, _, rfl, rfl, ?_⟩
      refine ⟨(1 + r1).toNat, (1 + r2).toNat, by omega, by omega, by omega, by omega, ?_, S2.same (Same.new htp), (kp1.trans kp2).trans (Keep.of (Same.new htp))⟩
      rw [Int.toNat_of_nonneg (by omega), Int.toNat_of_nonneg (by omega)]
      rfl
    rintro _ H2 ⟨sz, mn, sz1, sz48, mn1, mn4, rfl, S2, kp2⟩
    refine ⟨Nat.zero_le _, fun R hR0 => ?_⟩
    obtain ⟨Ra, Rl⟩ := S2.ne hR0
    have HR : H R = none := by
      cases e : H R with
      | none => rfl
      | some o => have := kp2 R o Ra Rl e; rw [hR0] at this; cases this
    refine ⟨fun σ' H' => ∃ x6 x7 x8 refs rows, σ' = [some (V.ref a), some (V.int most), some (V.int marks), some (V.int (sz : Int)), some (V.int (mn : Int)), some (V.ref R), x6, x7, x8] ∧ StreamAt H' a l (n + 2 + 4 * sz) ∧ Keep a l H H' ∧ H' R = some (.lst refs) ∧ Each H' isT refs rows ∧ rows.length = sz ∧ (∀ r ∈ rows, RwOk sz r), ?_, ?_⟩
    · refine ⟨_, rfl, (sz : Int), rfl, by omega, by omega, ?_⟩
      refine for_range (n := sz) (fun i σ' H' => ∃ x6 x7 x8 refs rows, σ' = [some (V.ref a), some (V.int most), some (V.int marks), some (V.int (sz : Int)), some (V.int (mn : Int)), some (V.ref R), x6, x7, x8] ∧ StreamAt H' a l (n + 2 + 4 * i) ∧ Keep a l H H' ∧ H' R = some (.lst refs) ∧ Each H' isT refs rows ∧ rows.length = i ∧ (∀ r ∈ rows, RwOk sz r)) ?_ ?_ ?_
      · refine ⟨none, none, none, [], [], rfl, S2.same (Same.new hR0), kp2.trans (Keep.of (Same.new hR0)), upd_same, Each.nil, rfl, fun r hr => by cases hr⟩
      · rintro i _ H3 hi ⟨x6, x7, x8, refs, rows, rfl, S3, kp3, hR, hE, hlen, hok⟩
        refine ⟨_, rfl, _, rfl, a, l, _, _, rfl, S3, by omega, by omega, e24 (by omega) (by omega), fun r1 H4 r10 r11 S4 kp4 => ?_⟩
        refine ⟨_, rfl, _, rfl, a, l, _, _, rfl, S4, by omega, by omega, e24 (by omega) (by omega), fun r2 H5 r20 r21 S5 kp5 => ⟨_, _, rfl, ?_⟩⟩
        have hR5 : H5 R = some (.lst refs) := kp5 _ _ Ra Rl (kp4 _ _ Ra Rl hR)
        refine ⟨_, rfl, .inl ⟨rfl, _, SqL.of hR5⟩, ?_⟩
        refine ⟨_, rfl, ?_⟩
        refine ⟨_, rfl, a, l, _, _, rfl, S5, by omega, by decide, e24 (by decide) (by decide), fun r3 H6 r30 r31 S6 kp6 => ⟨rfl, ?_⟩⟩
        refine ⟨_, rfl, ?_⟩
        refine ⟨_, rfl, a, l, _, _, rfl, S6, by omega, by decide, e24 (by decide) (by decide), fun r4 H7 r40 r41 S7 kp7 => ⟨rfl, by show 4 ≤ sizeLine; decide, fun tp htp => ?_⟩⟩
        have hR7 : H7 R = some (.lst refs) := kp7 _ _ Ra Rl (kp6 _ _ Ra Rl hR5)
        have kp37 : Keep a l H3 H7 := ((kp4.trans kp5).trans kp6).trans kp7
        have hE7 : Each H7 isT refs rows := hE.imp fun c r q => q.kp S3 kp37
        have hR8 := Same.new (o := .tup [.int r1, .bl (decide (V.int r3 = V.int 0)), .int r2, .bl (decide (V.int r4 = V.int 0))]) htp _ _ hR7
        have hE8 : Each _ isT refs rows := hE7.sameT (Same.new (o := .tup [.int r1, .bl (decide (V.int r3 = V.int 0)), .int r2, .bl (decide (V.int r4 = V.int 0))]) htp)
        refine ⟨R, refs, _, rfl, rfl, hR8, ?_, ?_⟩
        · rw [hE.1, hlen]
          exact Nat.lt_of_lt_of_le hi (Nat.le_trans sz48 (by decide))
        refine ⟨_, _, _, _, rows ++ [(r1, decide (V.int r3 = V.int 0), r2, decide (V.int r4 = V.int 0))], rfl, ?_, ?_, upd_same, ?_, ?_, ?_⟩
        · refine StreamAt.at_ (n := n + 2 + 4 * i + 4) ?_ (by omega)
          exact (S7.same (Same.new htp)).lst hR8 Ra Rl
        · intro c o ca cl e
          rw [upd_ne (ne_of_none e HR)]
          exact Same.new htp _ _ ((kp3.trans kp37) c o ca cl e)
        · exact (hE8.imp fun c r q => q.lst hR8).push ((show isT _ tp (r1, decide (V.int r3 = V.int 0), r2, decide (V.int r4 = V.int 0)) from upd_same).lst hR8)
        · rw [List.length_append, hlen]
          rfl
        · intro r hr
          rcases List.mem_append.mp hr with hr | hr
          · exact hok r hr
          · cases List.mem_singleton.mp hr
            exact ⟨⟨r10, r11⟩, r20, r21⟩
      · rintro σ' H' ⟨x6, x7, x8, refs, rows, rfl, S3, kp3, hR, hE, hlen, hok⟩
        exact ⟨x6, x7, x8, refs, rows, rfl, S3, kp3, hR, hE, hlen, hok⟩
    rintro _ H3 ⟨x6, x7, x8, refs, rows, rfl, S3, kp3, hR, hE, hlen, hok⟩
    have hm : ((mn : Int) * (mn : Int)).toNat = mn * mn := by
      rw [← Int.natCast_mul, Int.toNat_natCast]
    have hmm : mn * mn ≤ 16 := Nat.mul_le_mul mn4 mn4
    have hmi : (mn : Int) * (mn : Int) = ((mn * mn : Nat) : Int) := (Int.natCast_mul mn mn).symm
    refine ⟨_, rfl, ?_⟩
    refine ⟨_, rfl, _, rfl, _, _, rfl, rfl, .inl ⟨by omega, by omega⟩, _, rfl, by omega, by omega, fun Dd hD => ?_⟩
    obtain ⟨Da, Dl⟩ := S3.ne hD
    refine lc_range (n := ((mn : Int) * (mn : Int)).toNat) (fun i H' => StreamAt H' a l (n + 2 + 4 * sz + i) ∧ Keep a l H3 H' ∧ ∃ zs : List Int, H' Dd = some (.lst (zs.map V.int)) ∧ zs.length = i ∧ ∀ z ∈ zs, 0 ≤ z ∧ z < (sz : Int)) ?_ ?_ ?_
    · exact ⟨S3.same (Same.new hD), Keep.of (Same.new hD), [], upd_same, rfl, fun z hz => by cases hz⟩
    · rintro i H4 hi ⟨S4, kp4, zs, hd, hl, hz⟩
      rw [hm] at hi
      refine ⟨rfl, ?_⟩
      dsimp only [tYes]
      rw [if_pos rfl]
      refine ⟨_, rfl, _, rfl, a, l, _, _, rfl, S4, by omega, by omega, e24 (by omega) (by omega), fun r H5 r0 r1 S5 kp5 => ?_⟩
      have hd5 := kp5 _ _ Da Dl hd
      refine ⟨_, hd5, ?_, ?_, ?_, zs ++ [r], ?_, ?_, ?_⟩
      · rw [List.length_map, hl]
        exact Nat.lt_of_lt_of_le (Nat.lt_of_lt_of_le hi hmm) (by decide)
      · exact S5.lst hd5 Da Dl
      · intro c o ca cl e
        rw [upd_ne (ne_of_none e hD)]
        exact kp5 _ _ ca cl (kp4 _ _ ca cl e)
      · rw [upd_same, List.map_append]
        rfl
      · rw [List.length_append, hl]
        rfl
      · intro z hz'
        rcases List.mem_append.mp hz' with hz' | hz'
        · exact hz z hz'
        · cases List.mem_singleton.mp hz'
          exact ⟨r0, r1⟩
    · rintro H4 ⟨S4, kp4, zs, hd, hl, hz⟩
      rw [hm] at hl S4
      refine ⟨_, rfl, by show 3 ≤ sizeLine; decide, fun tp htp => ?_⟩
      have hR4 := kp4 _ _ Ra Rl hR
      have hD0 : H Dd = none := by
        cases e : H Dd with
        | none => rfl
        | some o => have := kp3 Dd o Da Dl e; rw [hD] at this; cases this
      refine kk tp R Dd refs rows zs mn _ _ upd_same (Same.new htp _ _ hR4) ?_ (Same.new htp _ _ hd) ⟨by omega, by omega, ?_, ?_, ?_⟩ (S4.same (Same.new htp)) (by omega) ((kp3.trans kp4).trans (Keep.of (Same.new htp))) Ra Rl Da Dl HR hD0
      · exact (hE.imp fun c r q => q.kp S3 kp4).sameT (Same.new htp)
      · intro r hr
        rw [hlen]
        exact hok r hr
      · rw [hl]
        rcases (by omega : mn = 1 ∨ mn = 2 ∨ mn = 3 ∨ mn = 4) with rfl | rfl | rfl | rfl
        · exact .r1
        · exact .r2
        · exact .r3
        · exact .r4
      · intro z hz'
        rw [hlen]
        exact hz z hz'
end
end PA

set_option maxHeartbeats 4000000
/-! texts: the parts of what was joined -/
namespace TS
open PySem PySem.StrLaws
/-- the code points -/
abbrev cs (x : Str) : List Nat := x.cps.toList
theorem cs_app (x y : Str) : cs (x ++ y) = cs x ++ cs y := by
  show (x.cps ++ y.cps).toList = _
  simp
theorem cs_inj {x y : Str} (h : cs x = cs y) : x = y := by
  cases x with
  | mk a =>
    cases y with
    | mk b => exact congrArg Str.mk (Array.toList_inj.mp h)
theorem cs_len (x : Str) : x.length = (cs x).length := by
  show x.cps.size = _
  simp
theorem at_get {x sub : Str} {i : Nat} (h : At x sub x.length i) {j : Nat} (hj : j < (cs sub).length) : (cs x)[i + j]? = (cs sub)[j]? := by
  obtain ⟨_, h2⟩ := h
  rw [subAt_eq] at h2
  have e : List.take sub.length (List.drop i (cs x)) = cs sub := by simpa using h2
  rw [← e, List.getElem?_take, if_pos (by rw [cs_len]; exact hj), List.getElem?_drop]
theorem at_of {x sub : Str} {pre post : List Nat} (h : cs x = pre ++ cs sub ++ post) : At x sub x.length pre.length := by
  refine ⟨?_, ?_⟩
  · rw [cs_len x, h, cs_len sub]
    simp
  · rw [subAt_eq]
    have : List.take sub.length (List.drop pre.length (cs x)) = cs sub := by
      rw [h, List.append_assoc, List.drop_left, cs_len, List.take_left]
    simpa using this
theorem sub_mid {x : Str} {pre mid post : List Nat} (h : cs x = pre ++ mid ++ post) {y : Str} (hy : cs y = mid) : Builtin.Str.strSub x pre.length (pre.length + mid.length) = y := by
  apply cs_inj
  show (Builtin.Str.strSub x pre.length (pre.length + mid.length)).cps.toList = _
  rw [strSub_toList, hy, show x.cps.toList = pre ++ mid ++ post from h]
  rw [show pre.length + mid.length - pre.length = mid.length from by omega, List.append_assoc, List.drop_left, List.take_left]
theorem sub_all (x : Str) : Builtin.Str.strSub x 0 x.length = x := by
  have := sub_mid (x := x) (pre := []) (mid := cs x) (post := []) (by simp) rfl
  rw [cs_len]
  simpa using this
theorem join_two (sep y z : Str) (r : List Str) : sep.join (y :: z :: r) = y ++ sep ++ sep.join (z :: r) := Str.join.eq_3 _ _ _ (by simp)
theorem chain_parts {x sep : Str} {c0 : Nat} {t : List Nat} (hsep : cs sep = c0 :: t) : ∀ (ys : List Str) (pre : List Nat) (cuts : List Nat) (f : Nat), ys ≠ [] → cs x = pre ++ cs (sep.join ys) → (∀ y ∈ ys, c0 ∉ cs y) →
    ChainG x sep x.length pre.length cuts f → (∀ k, f ≤ k → ¬ At x sep x.length k) → partsFrom x sep.length pre.length cuts = ys
  | [], _, _, _, h, _, _, _, _ => absurd rfl h
  | [y], pre, cuts, f, _, hx, hf, hc, hn => by
    rw [Str.join.eq_2] at hx
    cases cuts with
    | nil =>
      rw [partsFrom.eq_1]
      have e := sub_mid (x := x) (pre := pre) (mid := cs y) (post := []) (by simpa using hx) rfl
      have el : x.length = pre.length + (cs y).length := by rw [cs_len x, hx, List.length_append]
      rw [el, e]
    | cons c r =>
      rw [ChainG.eq_2] at hc
      obtain ⟨h1, h2, _⟩ := hc
      have h3 := at_get h2 (j := 0) (by rw [hsep]; simp)
      rw [hsep, Nat.add_zero, hx, List.getElem?_append_right h1] at h3
      exact absurd (List.mem_of_getElem? h3) (hf y (by simp))
  | y :: z :: r, pre, cuts, f, _, hx, hf, hc, hn => by
    rw [join_two, cs_app, cs_app] at hx
    have hat : At x sep x.length (pre.length + (cs y).length) := by
      have := at_of (x := x) (sub := sep) (pre := pre ++ cs y) (post := cs (sep.join (z :: r))) (by rw [hx]; simp)
      simpa using this
    have hno : ∀ k, pre.length ≤ k → k < pre.length + (cs y).length → ¬ At x sep x.length k := by
      intro k k1 k2 h2
      have h3 := at_get h2 (j := 0) (by rw [hsep]; simp)
      rw [hsep, Nat.add_zero, hx, List.getElem?_append_right k1, List.append_assoc, List.getElem?_append_left (by omega)] at h3
      exact hf y (by simp) (List.mem_of_getElem? h3)
    cases cuts with
    | nil =>
      rw [ChainG.eq_1] at hc
      exact absurd hat (hn _ (by omega))
    | cons c r' =>
      rw [ChainG.eq_2] at hc
      obtain ⟨h1, h2, h3, h4⟩ := hc
      have ec : c = pre.length + (cs y).length := by
        rcases Nat.lt_trichotomy c (pre.length + (cs y).length) with q | q | q
        · exact absurd h2 (hno c h1 q)
        · exact q
        · exact absurd hat (h3 _ (by omega) q)
      subst ec
      rw [partsFrom.eq_2]
      have e := sub_mid (x := x) (pre := pre) (mid := cs y) (post := cs sep ++ cs (sep.join (z :: r))) (by rw [hx]; simp) rfl
      rw [e]
      have hp : pre.length + (cs y).length + sep.length = (pre ++ cs y ++ cs sep).length := by rw [cs_len sep]; simp only [List.length_append]
      rw [hp] at h4 ⊢
      rw [chain_parts hsep (z :: r) (pre ++ cs y ++ cs sep) r' f (by simp) (by rw [hx]; simp) (fun y' hy' => hf y' (List.mem_cons_of_mem _ hy')) h4 hn]
theorem kind_pos (x : Str) : 1 ≤ Builtin.Str.strKind x := by
  unfold Builtin.Str.strKind
  split
  · exact Nat.le_refl _
  · split <;> omega
theorem split_join {sep : Str} {c0 : Nat} {t : List Nat} (hsep : cs sep = c0 :: t) (hk : Builtin.Str.strKind sep = 1) {ys : List Str} (h0 : ys ≠ []) (hf : ∀ y ∈ ys, c0 ∉ cs y) : Txt.split (Txt.join sep ys) sep = ys := by
  have ej : Txt.join sep ys = sep.join ys := glued_eq_join sep ys
  rw [ej]
  generalize hx : sep.join ys = x
  have h1 : 1 ≤ sep.length := by rw [cs_len, hsep]; simp
  obtain ⟨f, hc, hn⟩ := occ_tight x sep h1
  have hp := chain_parts (x := x) hsep ys [] _ f h0 (by rw [hx]; rfl) hf hc hn
  unfold Txt.split
  have k1 := kind_pos x
  by_cases hl : x.length < sep.length
  · rw [decide_eq_true hl, Bool.true_or, if_pos rfl]
    match ys, h0 with
    | [y], _ => rw [← hx, Str.join.eq_2]
    | y :: z :: r, _ =>
      rw [join_two] at hx
      rw [← hx, cs_len, cs_app, cs_app, cs_len sep] at hl
      simp only [List.length_append] at hl
      omega
  · rw [decide_eq_false hl, decide_eq_false (by omega : ¬ Builtin.Str.strKind x < Builtin.Str.strKind sep), Bool.false_or, if_neg (by simp)]
    split
    · rename_i he
      have e := List.isEmpty_iff.mp he
      rw [e] at hp
      rw [partsFrom.eq_1] at hp
      rw [← hp]
      show [x] = [Builtin.Str.strSub x 0 x.length]
      rw [sub_all]
    · rw [partsBetween_eq]
      exact hp
theorem partition_at {x a sep c : Str} (hx : cs x = cs a ++ cs sep ++ cs c) (hn : ∀ k, k < (cs a).length → ¬ At x sep x.length k) : Txt.partition x sep = (a, sep, c) := by
  have hat : At x sep x.length (cs a).length := at_of hx
  unfold Txt.partition
  rcases occ_head x sep 1 (Nat.le_refl _) with ⟨e, no⟩ | ⟨i, r, e, h1, h2⟩
  · exact absurd hat (no _)
  · rw [e]
    have ei : i = (cs a).length := by
      rcases Nat.lt_trichotomy i (cs a).length with q | q | q
      · exact absurd h1 (hn i q)
      · exact q
      · exact absurd hat (h2 _ q)
    subst ei
    have e1 := sub_mid (x := x) (pre := []) (mid := cs a) (post := cs sep ++ cs c) (by rw [hx]; simp) rfl
    have e2 := sub_mid (x := x) (pre := cs a ++ cs sep) (mid := cs c) (post := []) (by rw [hx]; simp) rfl
    simp only [List.length_nil, Nat.zero_add] at e1
    have el : x.length = (cs a ++ cs sep).length + (cs c).length := by rw [cs_len x, hx]; simp only [List.length_append]
    show (Builtin.Str.strSub x 0 (cs a).length, sep, Builtin.Str.strSub x ((cs a).length + sep.length) x.length) = _
    rw [e1, el, cs_len sep, ← List.length_append, e2]
theorem partition_no {x sep : Str} (hn : ∀ k, ¬ At x sep x.length k) : Txt.partition x sep = (x, Str.empty, Str.empty) := by
  unfold Txt.partition
  rcases occ_head x sep 1 (Nat.le_refl _) with ⟨e, no⟩ | ⟨i, r, e, h1, h2⟩
  · rw [e]
  · exact absurd h1 (hn i)
end TS

set_option maxHeartbeats 4000000
namespace L2
open PySem PySem.Spec PyProof.Rows
/-- d.get(x) of a written dict with texts as keys: the entries as they are, or None -/
def KGet (K : PySem.W.Frag) (w : World) (a : Addr) (x : Str) (v : V) : Prop := ∃ es n u,
  K.lookup a = some { cls := .type "dict", data := .dict es n } ∧ PySem.W.KeysLit w.params es.toList ∧ (a == sysModules) = false ∧ PySem.W.nsIn K a x = some u ∧ RelV v (u.getD .none)
def tKGet (K : PySem.W.Frag) (w : World) (to te : TE) : TE := fun σ H Q => to σ H fun x H1 => ∃ a, x = .ref a ∧ (∃ y v, KGet K w a y v) ∧ te σ H1 fun y H2 => ∃ z v, y = .str z ∧ KGet K w a z v ∧ Q v H2
theorem pe_kget {X : Cx} {o e : PySem.Expr} {to te : TE} {apos cpos : Pos} (ho : PE X o to) (he : PE X e te)
    (h1 : attributeBase o "get" X.env (eval o X.env) = eval o X.env := by rfl)
    (h2 : ((((backTo cpos (starEach [e] X.env)).all fun x => !x.1) && (backToKw cpos (keywordEach [] X.env)).all fun x => x.1.isSome) && decide (([e].length + ([] : List Keyword).length + if ([] : List Keyword).isEmpty = true then 0 else 1) < 30)) = true := by rfl)
    (h3 : (apos.endLine == cpos.line) = true := by rfl)
    (h4 : backTo cpos (starEach [e] X.env) = [(false, eval e X.env)] := by rfl) :
    PE X ((o.Attribute "get" apos).Call [e] [] cpos) (tKGet X.K X.w to te) := by
  refine ⟨fun pins s σ H Q I h => wpAny_Call_method_late h1 h2 h3 h4 (thn (ho.run pins s σ H _ I h) fun v s1 q => ?_)⟩
  obtain ⟨x, H1, I1, rx, a, rfl, ⟨y0, v0, es0, n0, u0, hl0, hk0, hs0, _⟩, q⟩ := q
  cases rx
  have hm0 := PySem.W.mapOf_K (prog := X.prog) (w := X.w) I1.kIn hl0 hk0
  refine ⟨"dict", "dict.get", PySem.F.plainAttrs_dict, PySem.F.slot_dict_get, PySem.F.type_dict_get, ?_, ?_, ?_⟩
  · exact hm0.typeIs
  · intro b hb
    cases hb
    exact ⟨_, I1.kIn _ _ hl0, rfl⟩
  · refine wpAny_dict_get1 (knd := strKind X.prog X.w) hs0 (thn (he.run pins s1 σ H1 _ I1 q) fun key s2 q2 => ?_)
    obtain ⟨yv, H2, I2, ry, z, v, rfl, ⟨es, n, u, hl, hk, _, hn, rv⟩, q2⟩ := q2
    obtain ⟨t, rfl⟩ := ry
    refine ⟨z, _, strKind_is _ _ _ _, PySem.W.mapOf_K I2.kIn hl hk, ?_⟩
    rw [PySem.W.find_K hl hn]
    exact ⟨v, H2, I2.tok _, rv, q2⟩
end L2

set_option maxHeartbeats 4000000
namespace PA
open PySem L2 RZ TS
open C8 (pss_cut tCut)
/-! ### words, pieces, texts -/
/-- a figure or a small letter -/
def okc (n : Nat) : Bool := (decide (48 ≤ n) && decide (n ≤ 57)) || (decide (97 ≤ n) && decide (n ≤ 122))
structure Word (w : Str) (i : Int) : Prop where
  ok : (cs w).all okc = true
  len : w.length ≤ 2
  asc : Txt.isascii w = true
  dig : Txt.isdigit w = true
  num : intText? w = some i
theorem word48 : ∀ n : Fin 48, ((cs (intS ((n : Nat) : Int))).all okc && decide ((intS ((n : Nat) : Int)).length ≤ 2) && Txt.isascii (intS ((n : Nat) : Int)) && Txt.isdigit (intS ((n : Nat) : Int)) && decide (intText? (intS ((n : Nat) : Int)) = some ((n : Nat) : Int))) = true := by
  decide +kernel
theorem int_word {i : Int} (h0 : 0 ≤ i) (h1 : i < 48) : Word (intS i) i := by
  have h := word48 ⟨i.toNat, by omega⟩
  simp only [Bool.and_eq_true, decide_eq_true_eq] at h
  have e : ((i.toNat : Nat) : Int) = i := Int.toNat_of_nonneg h0
  rw [e] at h
  exact ⟨h.1.1.1.1, h.1.1.1.2, h.1.1.2, h.1.2, h.2⟩
theorem fallS_ok (b : Bool) : (cs (fallS b)).all okc = true := by cases b <;> decide +kernel
theorem goS_ok (b : Bool) : (cs (goS b)).all okc = true := by cases b <;> decide +kernel
theorem not_mem_ok {w : Str} (h : (cs w).all okc = true) {n : Nat} (hn : okc n = false) : n ∉ cs w := fun z => by
  have := List.all_eq_true.mp h n z
  rw [hn] at this
  cases this
theorem mem_join {sep : Str} {c : Nat} : ∀ {ys : List Str}, c ∈ cs (sep.join ys) → c ∈ cs sep ∨ ∃ y ∈ ys, c ∈ cs y
  | [], h => by
    rw [Str.join.eq_1] at h
    have : cs Str.empty = [] := rfl
    rw [this] at h
    cases h
  | [y], h => by
    rw [Str.join.eq_2] at h
    exact .inr ⟨y, by simp, h⟩
  | y :: z :: r, h => by
    rw [join_two, cs_app, cs_app] at h
    rcases List.mem_append.mp h with h | h
    · rcases List.mem_append.mp h with h | h
      · exact .inr ⟨y, by simp, h⟩
      · exact .inl h
    · rcases mem_join h with h | ⟨y', hy, h⟩
      · exact .inl h
      · exact .inr ⟨y', List.mem_cons_of_mem _ hy, h⟩
theorem join_eq (sep : Str) (ys : List Str) : Txt.join sep ys = sep.join ys := StrLaws.glued_eq_join sep ys
theorem cs_sp : cs " " = [32] := by decide +kernel
theorem cs_semi : cs "; " = [59, 32] := by decide +kernel
theorem cs_bar : cs " | " = [32, 124, 32] := by decide +kernel
theorem cs_empty : cs Str.empty = [] := rfl
def rowWords (r : Rw) : List Str := [intS r.1, fallS r.2.1, intS r.2.2.1, goS r.2.2.2]
theorem rowTx_join (r : Rw) : rowTx r = Txt.join " " (rowWords r) := by
  rw [join_eq]
  apply cs_inj
  unfold rowTx rowWords
  rw [join_two, join_two, join_two, Str.join.eq_2]
  simp only [cs_app, cs_empty, List.nil_append, List.append_assoc]
theorem rowWords_ok {r : Rw} (h : RwOk 48 r) : ∀ w ∈ rowWords r, (cs w).all okc = true := by
  obtain ⟨⟨a0, a1⟩, c0, c1⟩ := h
  intro w hw
  unfold rowWords at hw
  simp only [List.mem_cons, List.not_mem_nil, or_false] at hw
  rcases hw with rfl | rfl | rfl | rfl
  · exact (int_word a0 a1).ok
  · exact fallS_ok _
  · exact (int_word c0 c1).ok
  · exact goS_ok _
theorem split_row {r : Rw} (h : RwOk 48 r) : Txt.split (rowTx r) " " = rowWords r := by
  rw [rowTx_join]
  exact split_join (c0 := 32) (t := []) cs_sp (by decide +kernel) (by unfold rowWords; simp) fun w hw => not_mem_ok (rowWords_ok h w hw) (by decide)
theorem mem_row {r : Rw} (h : RwOk 48 r) {c : Nat} (hc : c ∈ cs (rowTx r)) : c = 32 ∨ okc c = true := by
  rw [rowTx_join, join_eq] at hc
  rcases mem_join hc with hc | ⟨w, hw, hc⟩
  · rw [cs_sp] at hc
    exact .inl (List.mem_singleton.mp hc)
  · exact .inr (List.all_eq_true.mp (rowWords_ok h w hw) c hc)
theorem split_rows {rows : List Rw} (h0 : rows ≠ []) (h : ∀ r ∈ rows, RwOk 48 r) : Txt.split (rowsTx rows) "; " = rows.map rowTx := by
  unfold rowsTx
  refine split_join (c0 := 59) (t := [32]) cs_semi (by decide +kernel) (by simpa using h0) fun y hy => ?_
  obtain ⟨r, hr, rfl⟩ := List.mem_map.mp hy
  intro z
  rcases mem_row (h r hr) z with z | z
  · cases z
  · cases z
theorem mem_rows {rows : List Rw} (h : ∀ r ∈ rows, RwOk 48 r) {c : Nat} (hc : c ∈ cs (rowsTx rows)) : c ≠ 124 := by
  unfold rowsTx at hc
  rw [join_eq] at hc
  rintro rfl
  rcases mem_join hc with hc | ⟨w, hw, hc⟩
  · rw [cs_semi] at hc
    simp at hc
  · obtain ⟨r, hr, rfl⟩ := List.mem_map.mp hw
    rcases mem_row (h r hr) hc with z | z
    · cases z
    · cases z
theorem split_words {starts : List Int} (h0 : starts ≠ []) (h : ∀ s ∈ starts, 0 ≤ s ∧ s < 48) : Txt.split (wordsTx starts) " " = starts.map intS := by
  unfold wordsTx
  refine split_join (c0 := 32) (t := []) cs_sp (by decide +kernel) (by simpa using h0) fun y hy => ?_
  obtain ⟨s, hs, rfl⟩ := List.mem_map.mp hy
  exact not_mem_ok (int_word (h s hs).1 (h s hs).2).ok (by decide)
/-- where the bar stands -/
theorem bar_at {x : Str} {k : Nat} (h : StrLaws.At x " | " x.length k) : (cs x)[k + 1]? = some 124 := by
  have := at_get h (j := 1) (by rw [cs_bar]; decide)
  rw [this, cs_bar]
  rfl
theorem part_plain {rows : List Rw} (h : ∀ r ∈ rows, RwOk 48 r) : Txt.partition (ruleTx rows [0]) " | " = (ruleTx rows [0], Str.empty, Str.empty) := by
  refine partition_no fun k hk => ?_
  have e : cs (ruleTx rows [0]) = cs (rowsTx rows) := by
    unfold ruleTx startsTx
    rw [if_pos rfl, cs_app, cs_app, cs_empty]
    have : cs ("" : Str) = [] := by decide +kernel
    rw [this]
    simp
  have := bar_at hk
  rw [e] at this
  exact mem_rows h (List.mem_of_getElem? this) rfl
theorem plain_eq (rows : List Rw) : ruleTx rows [0] = rowsTx rows := by
  apply cs_inj
  unfold ruleTx startsTx
  rw [if_pos rfl, cs_app, cs_app, cs_empty]
  have : cs ("" : Str) = [] := by decide +kernel
  rw [this]
  simp
theorem part_bar {rows : List Rw} {starts : List Int} (h : ∀ r ∈ rows, RwOk 48 r) (h0 : starts ≠ [0]) : Txt.partition (ruleTx rows starts) " | " = (rowsTx rows, (" | " : Str), wordsTx starts) := by
  have e : cs (ruleTx rows starts) = cs (rowsTx rows) ++ cs " | " ++ cs (wordsTx starts) := by
    unfold ruleTx startsTx
    rw [if_neg h0]
    simp only [cs_app, cs_empty, List.nil_append, List.append_assoc]
  refine partition_at e fun k hk hat => ?_
  have hb := bar_at hat
  rw [e, List.append_assoc] at hb
  rcases Nat.lt_or_ge (k + 1) (cs (rowsTx rows)).length with q | q
  · rw [List.getElem?_append_left q] at hb
    exact mem_rows h (List.mem_of_getElem? hb) rfl
  · have : k + 1 = (cs (rowsTx rows)).length := by omega
    rw [List.getElem?_append_right q, this, Nat.sub_self, cs_bar] at hb
    cases hb
end PA

set_option maxHeartbeats 8000000
namespace PA
open PySem L2 RZ TS
open C8 (pss_cut tCut)
abbrev sReadSt : Stmt := top 10
abbrev sReadRow : Stmt := top 34
abbrev sRead : Stmt := inClass (top 30) 1
/-- a Rule, made with given starts -/
theorem mk_rule {K : PySem.W.Frag} {C : Addr} {H : Hp} {Q : VK} {E : XK} {G S : Addr} {refs : List V} {rows : List Rw} {starts : List Int} {k : Int} (hG : Sq K H G refs) (hE : Each H isLT refs rows) (hS : Sq K H S (starts.map V.int)) (gd : Good rows starts k)
    {x dx : Addr} (nx : H x = none) (ndx : H dx = none) (nex : dx ≠ x) (kk : ∀ H', Same H H' → RuleAt K C H' x rows starts k → Q .non H') :
    spInit K C [V.ref x, V.ref G, V.ref S] (upd (upd H dx (.own x)) x (.ins C dx [])) Q E := by
  have s1 : Same H (upd (upd H dx (.own x)) x (.ins C dx [])) := fun c o e => by
    rw [upd_ne (ne_of_none e nx), upd_ne (ne_of_none e ndx)]
    exact e
  refine ⟨x, dx, G, S, refs, rows, starts, k, rfl, upd_same, hG.up s1, hE.sameLT s1, hS.up s1, gd, fun H' ⟨R, S', refs', h1, h2, h3, h4⟩ kp => kk H' (fun c o e => kp c o (s1 _ _ e) (ne_of_none e nx)) ⟨dx, R, S', refs', h1, h2, h3, h4⟩⟩
/-- the two written dicts of words -/
structure TxtW (K : PySem.W.Frag) (w : World) (mg : Str → Option Value) : Prop where
  fl : ∃ d, mg "FALLS_OF_WORD" = some (.ref d) ∧ ∀ b, KGet K w d (fallS b) (.bl b)
  go : ∃ d, mg "GOES_OF_WORD" = some (.ref d) ∧ ∀ b, KGet K w d (goS b) (.bl b)
def spReadSt : Sp := fun vs H Q _ => ∃ (w : Str) (i : Int), vs = [.str w] ∧ Word w i ∧ Q (.int i) H
def spReadRow : Sp := fun vs H Q _ => ∃ (r : Rw), vs = [.str (rowTx r)] ∧ RwOk 48 r ∧ ∀ t H', Same H H' → isT H' t r → Q (.ref t) H'
def spRead (K : PySem.W.Frag) (C : Addr) : Sp := fun vs H Q _ => ∃ (rows : List Rw) (starts : List Int) (k : Int), vs = [.str (ruleTx rows starts)] ∧ Good rows starts k ∧ ∀ p H', Same H H' → RuleAt K C H' p rows starts k → Q (.ref p) H'
theorem gd48 {rows : List Rw} {starts : List Int} {k : Int} (g : Good rows starts k) : (∀ r ∈ rows, RwOk 48 r) ∧ (∀ s ∈ starts, 0 ≤ s ∧ s < 48) ∧ starts.length ≤ 16 ∧ starts ≠ [] ∧ rows ≠ [] := by
  have h48 := g.most
  have h1 := g.one
  have r16 := root_le g.root
  refine ⟨fun r hr => ?_, fun s hs => ?_, by omega, ?_, ?_⟩
  · obtain ⟨⟨a0, a1⟩, c0, c1⟩ := g.ok r hr
    exact ⟨⟨a0, by omega⟩, c0, by omega⟩
  · have := g.st s hs
    omega
  · rintro rfl
    have := g.root
    cases this
  · rintro rfl
    exact absurd h1 (by decide)
section
variable {P : Program} {w : World} {K : PySem.W.Frag} {mg : Str → Option Value} {base : Heap} {C : Addr}
theorem scReadSt : FnScope ["word"] ["word"] (defScope sReadSt) := ⟨rfl, rfl, rfl, by decide +kernel, rfl, by decide +kernel, by decide +kernel⟩
theorem ok_readSt {f : Addr} {fd : FuncData} (F : Fun K "read_state" "read_state" sReadSt f fd) (T : Txt K mg C) : FnOk P w K mg base CX0 1 f fd ["word"] spReadSt := by
  refine F.ok scReadSt (fun vs H Q E h => ?_) (fun cdv A outer s H vs Q E hr h => ?_)
  · obtain ⟨v, _, rfl, _⟩ := h
    rfl
  · obtain ⟨v, i, rfl, hw, k⟩ := h
    refine ⟨_, pss_cons (ps_if (PW.pt (pw_or (pt_cmpR op_gt (pe_callB call_len_str (by rfl) T.len_ PySem.boot_len (pa_cons (pv 0) pa_nil)) pe_int (nomark _))
        (pw_or (pt_not (pt_val (pe_bm0 PySem.F.plainAttrs_str PySem.F.slot_str_isascii PySem.F.type_str_isascii mt_isascii (pv 0)))) (pw_or1 (pt_not (pt_val (pe_bm0 PySem.F.plainAttrs_str PySem.F.slot_str_isdigit PySem.F.type_str_isdigit mt_isdigit (pv 0)))))))) pss_never pss_nil)
      (pss_one (ps_ret (pe_callTy call_int_str (by rfl) T.int_ boot_int' (pa_cons (pv 0) pa_nil)))), ?_⟩
    have hl := hw.len
    refine ⟨_, rfl, v, rfl, Nat.le_trans hl (by decide), _, _, rfl, rfl, _, rfl, ifD_no (by omega) ?_⟩
    refine ⟨_, rfl, rfl, v, rfl, rfl, trivial, _, rfl, ?_⟩
    rw [hw.asc]
    refine iteF ⟨_, rfl, rfl, v, rfl, rfl, trivial, _, rfl, ?_⟩
    rw [hw.dig]
    exact iteF ⟨_, rfl, v, i, rfl, hw.num, Nat.le_trans hl (by decide), k⟩
theorem scReadRow : FnScope ["piece", "words", "falls", "goes"] ["piece"] (defScope sReadRow) := ⟨rfl, rfl, rfl, by decide +kernel, rfl, by decide +kernel, by decide +kernel⟩
theorem ok_readRow {f g : Addr} {fd gd : FuncData} (F : Fun K "_read_row" "_read_row" sReadRow f fd) (T : Txt K mg C) (TW : TxtW K w mg) (D : Df K mg "read_state" sReadSt g gd ["word"]) : FnOk P w K mg base CX0 2 f fd ["piece"] spReadRow := by
  have G : FnOk P w K mg base CX0 1 g gd ["word"] spReadSt := ok_readSt D.F T
  obtain ⟨df, hdf, hfl⟩ := TW.fl
  obtain ⟨dg, hdg, hgo⟩ := TW.go
  refine F.ok scReadRow (fun vs H Q E h => ?_) (fun cdv A outer s H vs Q E hr h => ?_)
  · obtain ⟨r, rfl, _⟩ := h
    rfl
  · obtain ⟨r, rfl, hr48, k⟩ := h
    refine ⟨_, pss_cons (ps_set (i := 1) scReadRow.nd rfl (Or.inl rfl) (pe_bm PySem.F.plainAttrs_str PySem.F.slot_str_split PySem.F.type_str_split mt_split (pv 0) (pa_cons pe_str pa_nil)))
      (pss_cons (ps_if (pt_cmpR op_ne (pe_callB call_len_seq (by rfl) T.len_ PySem.boot_len (pa_cons (pv 1) pa_nil)) pe_int (nomark _)) pss_never pss_nil)
      (pss_cons (ps_set (i := 2) scReadRow.nd rfl (Or.inl rfl) (pe_kget (pe_glob (v := .ref df) rfl hdf rfl) (pe_ix ix_list (pv 1) pe_int (fun _ _ => rfl))))
      (pss_cons (ps_set (i := 3) scReadRow.nd rfl (Or.inl rfl) (pe_kget (pe_glob (v := .ref dg) rfl hdg rfl) (pe_ix ix_list (pv 1) pe_int (fun _ _ => rfl))))
      (pss_one (ps_ret (pe_tup (pa_cons (pe_call G hr rfl D.M D.F.kp D.B .nil pass0 (pa_cons (pe_ix ix_list (pv 1) pe_int (fun _ _ => rfl)) pa_nil)) (pa_cons (pv 2) (pa_cons (pe_call G hr rfl D.M D.F.kp D.B .nil pass0 (pa_cons (pe_ix ix_list (pv 1) pe_int (fun _ _ => rfl)) pa_nil)) (pa_cons (pv 3) pa_nil)))))))))), ?_⟩
    have hl := rowTx_le hr48
    refine ⟨_, rfl, rfl, _, _, rfl, rfl, by decide +kernel, Nat.le_trans (Nat.add_le_add_right hl 2) (by decide), fun p hp => ?_⟩
    rw [split_row hr48]
    have sp := Same.new (o := .lst ((rowWords r).map V.str)) hp
    have hpp : (upd H p (.lst ((rowWords r).map V.str))) p = some (.lst [.str (intS r.1), .str (fallS r.2.1), .str (intS r.2.2.1), .str (goS r.2.2.2)]) := upd_same
    obtain ⟨⟨a0, a1⟩, c0, c1⟩ := hr48
    refine ⟨_, rfl, p, _, rfl, .inl (SqL.of hpp), rfl, _, rfl, iteNS rfl ?_⟩
    refine ⟨df, rfl, ⟨_, _, hfl true⟩, _, rfl, p, _, _, _, rfl, rfl, SqL.of hpp, rfl, _, _, rfl, hfl r.2.1, ?_⟩
    refine ⟨dg, rfl, ⟨_, _, hgo true⟩, _, rfl, p, _, _, _, rfl, rfl, SqL.of hpp, rfl, _, _, rfl, hgo r.2.2.2, ?_⟩
    refine ⟨_, rfl, p, _, _, _, rfl, rfl, SqL.of hpp, rfl, _, _, rfl, int_word a0 a1, _, rfl, _, rfl, p, _, _, _, rfl, rfl, SqL.of hpp, rfl, _, _, rfl, int_word c0 c1, _, rfl, by show 4 ≤ sizeLine; decide, fun t ht => ?_⟩
    exact k t _ (sp.trans (Same.new ht)) upd_same
end
end PA

set_option maxHeartbeats 8000000
namespace PA
open PySem L2 RZ TS
open C8 (pss_cut tCut)
/-- what makes and writes Rules -/
structure LibR (K : PySem.W.Frag) (w : World) (mg : Str → Option Value) (C fI dd g1 g2 g3 g4 fS s1 s2 s3 r1 r2 : Addr) (dI gd1 gd2 gd3 gd4 dS sd1 sd2 sd3 rd1 rd2 : FuncData) : Prop where
  T : Txt K mg C
  TS : TxtS K mg
  TW : TxtW K w mg
  I : FunI K fI dI dd
  M : Mk K C fI
  b2 : Binds K dI ["self", "rows", "starts"] []
  D1 : Df K mg "is_integer" sIsInt g1 gd1 ["value"]
  D2 : Df K mg "is_below" sBelow g2 gd2 ["value", "count"]
  D3 : Df K mg "_is_row" sIsRow g3 gd3 ["row", "count"]
  D4 : Df K mg "_check_table" sCheck g4 gd4 ["rows", "starts"]
  FS : Fun K "__str__" "Rule.__str__" sStr fS dS
  bS : Binds K dS ["self"] []
  mS : Meth K C "__str__" fS
  S1 : Df K mg "_rows_text" sRowsTx s1 sd1 ["rows"]
  S2 : Df K mg "_row_text" sRowTx s2 sd2 ["row"]
  S3 : Df K mg "_starts_text" sStartsTx s3 sd3 ["starts"]
  R1 : Df K mg "read_state" sReadSt r1 rd1 ["word"]
  R2 : Df K mg "_read_row" sReadRow r2 rd2 ["piece"]
section
variable {P : Program} {w : World} {K : PySem.W.Frag} {mg : Str → Option Value} {base : Heap} {C fI dd g1 g2 g3 g4 fS s1 s2 s3 r1 r2 : Addr} {dI gd1 gd2 gd3 gd4 dS sd1 sd2 sd3 rd1 rd2 : FuncData}
theorem scRead : FnScope ["text", "body", "bar", "tail", "starts", "rule", "word", "piece"] ["text"] (defScope sRead) := ⟨rfl, rfl, rfl, by decide +kernel, rfl, by decide +kernel, by decide +kernel⟩
/-- how long a text of a rule is -/
theorem text_le {rows : List Rw} {starts : List Int} {k : Int} (gd : Good rows starts k) : (ruleTx rows starts).length ≤ 300000 := by
  obtain ⟨h1, h2, h3, _, _⟩ := gd48 gd
  have q1 := app_le em_le (rows_le gd.most h1)
  have q2 := app_le q1 (starts_le h3 h2)
  exact Nat.le_trans q2 (by decide)
theorem ok_read {f : Addr} {fd : FuncData} (F : Fun K "read" "Rule.read" sRead f fd) (L : LibR K w mg C fI dd g1 g2 g3 g4 fS s1 s2 s3 r1 r2 dI gd1 gd2 gd3 gd4 dS sd1 sd2 sd3 rd1 rd2) : FnOk P w K mg base CX0 7 f fd ["text"] (spRead K C) := by
  have T := L.T
  obtain ⟨dp, hdp, hpl⟩ := L.TS.plain
  have GI : FnOk P w K mg base CX0 5 fI dI ["self", "rows", "starts"] (spInit K C) := ok_init L.I T L.D1 L.D2 L.D3 L.D4
  have GS : FnOk P w K mg base CX0 3 fS dS ["self"] (spStr K C) := ok_str L.FS T L.TS L.S1 L.S2 L.S3
  have GRs : FnOk P w K mg base CX0 1 r1 rd1 ["word"] spReadSt := ok_readSt L.R1.F T
  have GRr : FnOk P w K mg base CX0 2 r2 rd2 ["piece"] spReadRow := ok_readRow L.R2.F T L.TW L.R1
  refine F.ok scRead (fun vs H Q E h => ?_) (fun cdv A outer s H vs Q E hr h => ?_)
  · obtain ⟨_, _, _, rfl, _⟩ := h
    rfl
  · obtain ⟨rows, starts, k, rfl, gd, kk⟩ := h
    have hr1 : Room 1 _ := hr.mono (by decide)
    have hr2 : Room 2 _ := hr.mono (by decide)
    have hr5 : Room 5 _ := hr.mono (by decide)
    refine ⟨_, pss_cons (ps_asg (pe_bm PySem.F.plainAttrs_str PySem.F.slot_str_partition PySem.F.type_str_partition mt_partition (pv 0) (pa_cons pe_str pa_nil)) (pg_tup rfl (pgs_cons (pg_name (i := 1) scRead.nd rfl (Or.inl rfl)) (pgs_cons (pg_name (i := 2) scRead.nd rfl (Or.inl rfl)) (pgs_cons (pg_name (i := 3) scRead.nd rfl (Or.inl rfl)) pgs_nil)))))
      (pss_cut (ps_set (i := 4) scRead.nd rfl (Or.inl rfl) (pe_ifExp (pt_truth (pv 2) (fun _ => rfl)) (pe_lc (own := [("word", 6)]) (g := gName 6) (tt := tYes) (by rfl) scRead.nd (pi_list (pe_bm PySem.F.plainAttrs_str PySem.F.slot_str_split PySem.F.type_str_split mt_split (pv 3) (pa_cons pe_str pa_nil))) (blkOk_by (N := ["text", "body", "bar", "tail", "starts", "rule", "word", "piece"]) (sc := defScope sRead) (by decide +kernel))
          (fun _ _ _ _ _ => pg_name (i := 6) scRead.nd rfl (Or.inl rfl)) (fun _ _ _ _ _ => pts_nil)
          (fun _ _ _ _ _ => pe_call GRs hr1 rfl L.R1.M L.R1.F.kp L.R1.B .nil pass0 (pa_cons (pv 6) pa_nil))) (pe_glob (v := .ref dp) rfl hdp rfl)))
      (pss_cons (ps_set (i := 5) scRead.nd rfl (Or.inl rfl) (pe_make L.M GI hr rfl T.mgC L.b2 .nil pass0 (pa_cons (pe_lc (own := [("piece", 7)]) (g := gName 7) (tt := tYes) (by rfl) scRead.nd (pi_list (pe_bm PySem.F.plainAttrs_str PySem.F.slot_str_split PySem.F.type_str_split mt_split (pv 1) (pa_cons pe_str pa_nil))) (blkOk_by (N := ["text", "body", "bar", "tail", "starts", "rule", "word", "piece"]) (sc := defScope sRead) (by decide +kernel))
          (fun _ _ _ _ _ => pg_name (i := 7) scRead.nd rfl (Or.inl rfl)) (fun _ _ _ _ _ => pts_nil)
          (fun _ _ _ _ _ => pe_call GRr hr2 rfl L.R2.M L.R2.F.kp L.R2.B .nil pass0 (pa_cons (pv 7) pa_nil))) (pa_cons (pv 4) pa_nil))))
      (pss_cons (ps_if (pt_cmpR op_ne (pe_callTy (call_strOwn (E := E0) L.mS.at_ L.mS.fn GS hr5 L.bS pass0) (by rfl) L.TS.str_ boot_str' (pa_cons (pv 5) pa_nil)) (pv 0) (nomark _)) pss_never pss_nil)
      (pss_one (ps_ret (pv 5)))))), ?_⟩
    obtain ⟨h1, h2, h3, h4, h5⟩ := gd48 gd
    have htl := text_le gd
    have hbs : (" | ".length == 0) = false := by decide +kernel
    refine ⟨_, rfl, rfl, _, _, rfl, rfl, by decide +kernel, Nat.le_trans htl (by decide), fun p hp => ?_⟩
    obtain ⟨bar, tail, hpart, hbar⟩ : ∃ bar tail : Str, Txt.partition (ruleTx rows starts) " | " = (rowsTx rows, bar, tail) ∧ ((starts = [0] ∧ bar = Str.empty) ∨ (starts ≠ [0] ∧ bar = (" | " : Str) ∧ tail = wordsTx starts)) := by
      by_cases hz : starts = [0]
      · refine ⟨Str.empty, Str.empty, ?_, .inl ⟨hz, rfl⟩⟩
        rw [hz, part_plain h1, plain_eq]
      · exact ⟨_, _, part_bar h1 hz, .inr ⟨hz, rfl, rfl⟩⟩
    rw [hpart]
    have sp := Same.new (o := .tup [.str (rowsTx rows), .str bar, .str tail]) hp
    refine ⟨p, _, rfl, SqT.of upd_same, rfl, _, _, rfl, _, _, rfl, _, _, rfl, rfl, ?_⟩
    generalize (upd H p (.tup [.str (rowsTx rows), .str bar, .str tail])) = H0 at sp
    refine ⟨fun σ' H' => ∃ S, σ' = [some (.str (ruleTx rows starts)), some (.str (rowsTx rows)), some (.str bar), some (.str tail), some (.ref S), none, none, none] ∧ Same H0 H' ∧ Sq K H' S (starts.map V.int), ?_, ?_⟩
    · rcases hbar with ⟨hz, rfl⟩ | ⟨hz, rfl, rfl⟩
      · refine ⟨_, rfl, false, ⟨Nat.zero_le _, rfl⟩, iteF ⟨dp, rfl, fun _ _ e => e, .inr ?_⟩⟩
        rw [hz]
        exact hpl _
      · refine ⟨_, rfl, true, ⟨by show (" | " : Str).length ≤ sizeLine; decide +kernel, by show true = ((((" | " : Str).length : Nat) : Int) != 0); decide +kernel⟩, iteT ?_⟩
        have hwl : (wordsTx starts).length ≤ 40000 := Nat.le_trans (join_le " " (starts.map intS)) (words_le h3 h2)
        refine ⟨_, rfl, rfl, _, _, rfl, rfl, by decide +kernel, Nat.le_trans (Nat.add_le_add_right hwl 2) (by decide), fun q hq => ⟨q, rfl, ⟨_, SqL.of upd_same⟩, fun Dd hD => ?_⟩⟩
        rw [split_words h4 h2] at hD ⊢
        have sq := Same.new (o := .lst ((starts.map intS).map V.str)) hq
        have hqq : (upd H0 q (.lst ((starts.map intS).map V.str))) q = some (.lst ((starts.map intS).map V.str)) := upd_same
        generalize (upd H0 q (.lst ((starts.map intS).map V.str))) = H1 at sq hqq hD
        refine lc_same (xs := (starts.map intS).map V.str) (walk_l (K := K) (a := q) (xs := (starts.map intS).map V.str)) (by simp; exact Nat.le_trans h3 (by decide)) hD (fun H' s' => SqL.of (s' _ _ hqq)) (starts.map V.int) (by simp) (fun i x y H' Φ Ψ hx hy sm kf => ?_) fun H2 s2 hd2 => ⟨Dd, rfl, sq.trans s2, .inl (SqL.of hd2)⟩
        rw [List.getElem?_map, List.getElem?_map, Option.map_eq_some_iff] at hx
        obtain ⟨y1, hx, rfl⟩ := hx
        rw [Option.map_eq_some_iff] at hx
        obtain ⟨z, hz1, rfl⟩ := hx
        rw [List.getElem?_map, hz1] at hy
        cases hy
        have hzz := h2 z (List.mem_of_getElem? hz1)
        refine ⟨rfl, ?_⟩
        dsimp only [tYes]
        rw [if_pos rfl]
        exact ⟨_, rfl, _, _, rfl, int_word hzz.1 hzz.2, kf H' fun _ _ e => e⟩
    rintro _ H1 ⟨S, rfl, s1', hS⟩
    have hrl := rows_le gd.most h1
    refine ⟨_, rfl, rfl, _, _, rfl, rfl, by decide +kernel, Nat.le_trans (Nat.add_le_add_right hrl 2) (by decide), fun q hq => ⟨q, rfl, ⟨_, SqL.of upd_same⟩, fun Dd hD => ?_⟩⟩
    rw [split_rows h5 h1] at hD ⊢
    have sq := Same.new (o := .lst ((rows.map rowTx).map V.str)) hq
    have hqq : (upd H1 q (.lst ((rows.map rowTx).map V.str))) q = some (.lst ((rows.map rowTx).map V.str)) := upd_same
    generalize (upd H1 q (.lst ((rows.map rowTx).map V.str))) = H2 at sq hqq hD
    refine lc_acc (xs := (rows.map rowTx).map V.str) (walk_l (K := K) (a := q) (xs := (rows.map rowTx).map V.str)) (by simp; exact Nat.le_trans gd.most (by decide)) hD (fun H' s' => SqL.of (s' _ _ hqq)) (fun i acc H' => Each H' isT acc (rows.take i)) (fun i acc H' e => by rw [e.1, List.length_take]; omega) (by rw [List.take_zero]; exact Each.nil) (fun i x H' acc Φ Ψ hi hx sm hd he kf => ?_) fun H3 acc s3 hd he => ?_
    · rw [List.getElem?_map, List.getElem?_map, Option.map_eq_some_iff] at hx
      obtain ⟨y1, hx, rfl⟩ := hx
      rw [Option.map_eq_some_iff] at hx
      obtain ⟨r, hr', rfl⟩ := hx
      refine ⟨rfl, ?_⟩
      dsimp only [tYes]
      rw [if_pos rfl]
      refine ⟨_, rfl, r, rfl, h1 r (List.mem_of_getElem? hr'), fun t H4 s4 ht => kf _ H4 s4 (s4 _ _ hd) fun H5 h5' b1 b2 => ?_⟩
      rw [take_succ' hr']
      exact Each.push (he.imp fun c' r' z => b1 _ _ (ne_of (s4 _ _ z) (s4 _ _ hd) (by intro z; cases z)) (s4 _ _ z)) (b1 _ _ (ne_of ht (s4 _ _ hd) (by intro z; cases z)) ht)
    rw [List.length_map, List.length_map, List.take_length] at he
    have s13 := sq.trans s3
    refine ⟨_, rfl, fun x dx nx ndx nex => mk_rule (G := Dd) (S := S) (refs := acc) (rows := rows) (starts := starts) (k := k) (.inl (SqL.of hd)) (he.imp fun c r q => .inl q) (hS.up s13) gd nx ndx nex fun H4 s4 r4 => ⟨rfl, ?_⟩⟩
    have r4' := r4
    obtain ⟨dx4, R4, S4, refs4, h4x, _⟩ := id r4
    refine ⟨_, rfl, x, dx4, _, rfl, h4x, x, rows, starts, k, rfl, r4', gd.most, h1, h3, h2, fun H5 s5 => ⟨_, rfl, _, rfl, rfl, _, rfl, iteNS rfl ?_⟩⟩
    exact ⟨_, rfl, kk x H5 (((sp.trans s1').trans s13).trans (s4.trans s5)) (r4'.same s5)⟩
end
end PA

set_option maxHeartbeats 8000000
namespace PA
open PySem L2 RZ TS
open C8 (pss_cut tCut)
def rIxLK (K : PySem.W.Frag) : R2 := fun x y H Q => ∃ p xs i v, x = .ref p ∧ y = .int i ∧ SqL K H p xs ∧ atI xs i = some v ∧ Q v H
theorem ix_listK {X : Cx} {K : PySem.W.Frag} (h : X.K = K) : IxR X (rIxLK K) := h ▸ ix_list
/-- the law's own texts -/
def wTx (r : Rw) : Str := (((fallS r.2.1 ++ (" " : Str)) ++ intS r.2.2.1) ++ (" " : Str)) ++ goS r.2.2.2
def pTx (r : Rw) : Str := (intS r.1 ++ (" " : Str)) ++ wTx r
theorem pTx_eq (r : Rw) : pTx r = rowTx r := by
  apply cs_inj
  unfold pTx wTx rowTx
  simp only [cs_app, cs_empty, List.nil_append, List.append_assoc]
theorem wTx_le {r : Rw} (h : RwOk 48 r) : (wTx r).length ≤ 1931 := by
  obtain ⟨⟨a0, a1⟩, c0, c1⟩ := h
  have q1 := app_le (fallS_le r.2.1) sp_le
  have q2 := app_le q1 (intS_le c0 c1)
  have q3 := app_le q2 sp_le
  exact Nat.le_trans (app_le q3 (goS_le r.2.2.2)) (by decide)
theorem intsL_zero (ns : List Int) : PyData.eqv (.list (ns.map PyData.int)) (.list [.int 0]) = decide (ns = [0]) := by
  cases ns with
  | nil => simp [PyData.eqv, PyData.eqvAll]
  | cons z zs =>
    cases zs with
    | nil =>
      by_cases hz : z = 0
      · subst hz; simp [PyData.eqv, PyData.eqvAll]
      · simp [PyData.eqv, PyData.eqvAll, hz]
    | cons y ys => simp [PyData.eqv, PyData.eqvAll]
theorem text_bar {rows : List Rw} {starts : List Int} (h : starts ≠ [0]) : (rowsTx rows ++ (" | " : Str)) ++ wordsTx starts = ruleTx rows starts := by
  apply cs_inj
  unfold ruleTx startsTx
  rw [if_neg h]
  simp only [cs_app, cs_empty, List.nil_append, List.append_assoc]
def spText : Sp := fun vs H Q _ => ∃ (R S : Addr) (refs : List V) (rows : List Rw) (starts : List Int) (k : Int), vs = [.ref R, .ref S] ∧ H R = some (.lst refs) ∧ Each H isT refs rows ∧ H S = some (.lst (starts.map V.int)) ∧ Good rows starts k ∧ ∀ H', Same H H' → Q (.str (ruleTx rows starts)) H'
section
variable {P : Program} {w : World} {K : PySem.W.Frag} {mg : Str → Option Value} {base : Heap} {C : Addr}
theorem scText : FnScope ["_law_rows", "_law_starts", "_law_words", "_law_text", "_law_row", "_law_k", "_law_start_here"] ["_law_rows", "_law_starts"] (defScope sText) := ⟨rfl, rfl, rfl, by decide +kernel, rfl, by decide +kernel, by decide +kernel⟩
theorem ok_text {f : Addr} {fd : FuncData} (F : Fun K "_law_m_text" "_law_m_text" sText f fd) (T : Txt K mg C) (TS : TxtS K mg) : FnOk P w K mg base CX0 1 f fd ["_law_rows", "_law_starts"] spText := by
  refine F.ok scText (fun vs H Q E h => ?_) (fun cdv A outer s H vs Q E hr h => ?_)
  · obtain ⟨R, S, _, _, _, _, rfl, _⟩ := h
    rfl
  · obtain ⟨R, S, refs, rows, starts, k, rfl, hR, hE, hS, gd, kk⟩ := h
    refine ⟨_, pss_cons (ps_set (i := 2) scText.nd rfl (Or.inr rfl) (pe_lc (own := [("_law_row", 4)]) (g := gName 4) (tt := tYes) (by rfl) scText.nd (pi_list (pv 0)) (blkOk_by (N := ["_law_rows", "_law_starts", "_law_words", "_law_text", "_law_row", "_law_k", "_law_start_here"]) (sc := defScope sText) (by decide +kernel))
          (fun _ _ _ _ _ => pg_name (i := 4) scText.nd rfl (Or.inl rfl)) (fun _ _ _ _ _ => pts_nil)
          (fun _ _ _ _ _ => pe_op op_add_str (pe_op op_add_str (pe_op op_add_str (pe_op op_add_str (pe_ix (ix_listK (K := K) rfl) (pe_lst (pa_cons pe_str (pa_cons pe_str pa_nil))) (pe_callTy call_int1 (by rfl) T.int_ boot_int' (pa_cons (pe_ix (ix_tupK (K := K) rfl) (pv 4) pe_int (fun _ _ => rfl)) pa_nil)) (fun _ _ => rfl)) pe_str)
            (pe_callTy call_str_int (by rfl) TS.str_ boot_str' (pa_cons (pe_ix (ix_tupK (K := K) rfl) (pv 4) pe_int (fun _ _ => rfl)) pa_nil))) pe_str)
            (pe_ix (ix_listK (K := K) rfl) (pe_lst (pa_cons pe_str (pa_cons pe_str pa_nil))) (pe_callTy call_int1 (by rfl) T.int_ boot_int' (pa_cons (pe_ix (ix_tupK (K := K) rfl) (pv 4) pe_int (fun _ _ => rfl)) pa_nil)) (fun _ _ => rfl)))))
      (pss_cons (ps_set (i := 3) scText.nd rfl (Or.inl rfl) (pe_join pe_str (pe_lc (own := [("_law_k", 5)]) (g := gName 5) (tt := tYes) (by rfl) scText.nd (pi_range1 (by rfl) T.range_ (pa_cons (pe_callB call_len_seq (by rfl) T.len_ PySem.boot_len (pa_cons (pv 0) pa_nil)) pa_nil)) (blkOk_by (N := ["_law_rows", "_law_starts", "_law_words", "_law_text", "_law_row", "_law_k", "_law_start_here"]) (sc := defScope sText) (by decide +kernel))
          (fun _ _ _ _ _ => pg_name (i := 5) scText.nd rfl (Or.inl rfl)) (fun _ _ _ _ _ => pts_nil)
          (fun _ _ _ _ _ => pe_op op_add_str (pe_op op_add_str (pe_callTy call_str_int (by rfl) TS.str_ boot_str' (pa_cons (pe_ix (ix_tupK (K := K) rfl) (pe_ix (ix_listK (K := K) rfl) (pv 0) (pv 5) (fun _ _ => rfl)) pe_int (fun _ _ => rfl)) pa_nil)) pe_str) (pe_ix (ix_listK (K := K) rfl) (pv 2) (pv 5) (fun _ _ => rfl))))))
      (pss_cons (ps_if (pt_cmpR (op_eqD hr.units) (pe_callTy call_list_of (by rfl) T.list_ boot_list' (pa_cons (pv 1) pa_nil)) (pe_lst (pa_cons pe_int pa_nil)) (nomark _)) (pss_one (ps_ret (pv 3))) pss_nil)
      (pss_one (ps_ret (pe_op op_add_str (pe_op op_add_str (pv 3) pe_str) (pe_join pe_str (pe_lc (own := [("_law_start_here", 6)]) (g := gName 6) (tt := tYes) (by rfl) scText.nd (pi_list (pv 1)) (blkOk_by (N := ["_law_rows", "_law_starts", "_law_words", "_law_text", "_law_row", "_law_k", "_law_start_here"]) (sc := defScope sText) (by decide +kernel))
          (fun _ _ _ _ _ => pg_name (i := 6) scText.nd rfl (Or.inl rfl)) (fun _ _ _ _ _ => pts_nil)
          (fun _ _ _ _ _ => pe_callTy call_str_int (by rfl) TS.str_ boot_str' (pa_cons (pv 6) pa_nil))))))))), ?_⟩
    obtain ⟨h1, h2, h3, h4, h5⟩ := gd48 gd
    have hlr : refs.length = rows.length := hE.1
    have h48 := gd.most
    have big : ∀ {n : Nat}, n ≤ 300000 → n ≤ sizeLine := fun h => Nat.le_trans h (by decide)
    refine ⟨_, rfl, R, rfl, ⟨_, SqL.of hR⟩, fun Dd hD => ?_⟩
    refine lc_same (xs := refs) (walk_l (K := K) (a := R) (xs := refs)) (by rw [hlr]; exact Nat.le_trans h48 (by decide)) hD (fun H' s' => SqL.of (s' _ _ hR)) ((rows.map wTx).map V.str) (by simp [hlr]) (fun i x y H' Φ Ψ hx hy sm kf => ?_) fun H1 s1 hd1 => ?_
    · rw [List.getElem?_map, List.getElem?_map, Option.map_eq_some_iff] at hy
      obtain ⟨y1, hy, rfl⟩ := hy
      rw [Option.map_eq_some_iff] at hy
      obtain ⟨r, hr', rfl⟩ := hy
      obtain ⟨c, rfl, hc⟩ := hE.2 i x _ hx hr'
      obtain ⟨⟨a0, a1⟩, c0, c1⟩ := h1 r (List.mem_of_getElem? hr')
      obtain ⟨ra, rb, rc, rd⟩ := r
      have hcS := sm _ _ hc
      refine ⟨rfl, ?_⟩
      dsimp only [tYes]
      rw [if_pos rfl]
      refine ⟨by show 2 ≤ sizeLine; decide, fun p hp => ?_⟩
      have sp := Same.new (o := .lst [.str "stay", .str "fall"]) hp
      have q1 := app_le (fallS_le rb) sp_le
      have q2 := app_le q1 (intS_le c0 c1)
      have q3 := app_le q2 sp_le
      have l1 : ∀ {a b : Str}, a.length + b.length ≤ 300000 → a.length + b.length ≤ sizeLine := fun h => big h
      refine ⟨_, rfl, c, _, _, _, rfl, rfl, SqT.of (sp _ _ hcS), rfl, .inr ⟨rb, rfl, p, _, _, .str (fallS rb), rfl, rfl, SqL.of upd_same, by cases rb <;> rfl, _, _, rfl, rfl, big (Nat.le_trans (Nat.add_le_add (fallS_le rb) sp_le) (by decide)), ?_⟩⟩
      refine ⟨_, rfl, c, _, _, _, rfl, rfl, SqT.of (sp _ _ hcS), rfl, rc, rfl, small_log c0 c1, _, _, rfl, rfl, big (Nat.le_trans (Nat.add_le_add q1 (intS_le c0 c1)) (by decide)), _, _, rfl, rfl, big (Nat.le_trans (Nat.add_le_add q2 sp_le) (by decide)), ?_⟩
      refine ⟨by show 2 ≤ sizeLine; decide, fun q hq => ?_⟩
      have sq := Same.new (o := .lst [.str "stay", .str "go"]) hq
      refine ⟨_, rfl, c, _, _, _, rfl, rfl, SqT.of (sq _ _ (sp _ _ hcS)), rfl, .inr ⟨rd, rfl, q, _, _, .str (goS rd), rfl, rfl, SqL.of upd_same, by cases rd <;> rfl, _, _, rfl, rfl, big (Nat.le_trans (Nat.add_le_add q3 (goS_le rd)) (by decide)), ?_⟩⟩
      exact kf _ (sp.trans sq)
    refine ⟨⟨_, rfl⟩, _, rfl, R, _, rfl, .inl (SqL.of (s1 _ _ hR)), _, rfl, by omega, by omega, fun De hE' => ?_⟩
    refine lc_range (n := ((refs.length : Int)).toNat) (fun i H' => Same H1 H' ∧ H' De = some (.lst (((rows.take i).map pTx).map V.str))) ?_ ?_ ?_
    · exact ⟨Same.new hE', by rw [List.take_zero]; exact upd_same⟩
    · rintro i H' hi ⟨sm, hd⟩
      have hi' : i < rows.length := by omega
      have hr' : rows[i]? = some rows[i] := List.getElem?_eq_getElem hi'
      have hw' : ((rows.map wTx).map V.str)[i]? = some (.str (wTx rows[i])) := by rw [List.getElem?_map, List.getElem?_map, hr']; rfl
      obtain ⟨c, hc, hcc⟩ : ∃ c, refs[i]? = some (.ref c) ∧ isT H c rows[i] := by
        have hx : refs[i]? = some refs[i] := List.getElem?_eq_getElem (by omega)
        obtain ⟨c, e, q⟩ := hE.2 i _ _ hx hr'
        exact ⟨c, by rw [hx, e], q⟩
      have hok := h1 _ (List.getElem_mem hi')
      obtain ⟨⟨a0, a1⟩, _⟩ := id hok
      refine ⟨rfl, ?_⟩
      dsimp only [tYes]
      rw [if_pos rfl]
      have hci : atI refs (0 + (i : Int)) = some (.ref c) := by rw [Int.zero_add]; exact atI_nat hc
      have hwi : atI ((rows.map wTx).map V.str) (0 + (i : Int)) = some (.str (wTx rows[i])) := by rw [Int.zero_add]; exact atI_nat hw'
      refine ⟨_, rfl, _, rfl, R, _, _, _, rfl, rfl, SqL.of (sm _ _ (s1 _ _ hR)), hci, c, _, _, _, rfl, rfl, SqT.of (sm _ _ (s1 _ _ hcc)), rfl, rows[i].1, rfl, small_log a0 a1, _, _, rfl, rfl, big (Nat.le_trans (Nat.add_le_add (intS_le a0 a1) sp_le) (by decide)), ?_⟩
      have qq := app_le (intS_le a0 a1) sp_le
      refine ⟨_, rfl, _, rfl, Dd, _, _, _, rfl, rfl, SqL.of (sm _ _ hd1), hwi, _, _, rfl, rfl, big (Nat.le_trans (Nat.add_le_add qq (wTx_le hok)) (by decide)), _, hd, ?_, ?_, ?_⟩
      · rw [List.length_map, List.length_map, List.length_take]
        exact Nat.lt_of_le_of_lt (Nat.le_trans (Nat.min_le_left _ _) (Nat.le_of_lt hi')) (Nat.lt_of_le_of_lt h48 (by decide))
      · intro c' o e
        rw [upd_ne (ne_of_none e hE')]
        exact sm _ _ e
      · rw [upd_same, take_succ' hr', List.map_append, List.map_append]
        rfl
    rintro H2 ⟨s2, hd2⟩
    have ept : (rows.take ((refs.length : Int)).toNat).map pTx = rows.map rowTx := by
      rw [show ((refs.length : Int)).toNat = rows.length from by omega, List.take_length]
      exact List.map_congr_left fun r _ => pTx_eq r
    rw [ept] at hd2
    refine ⟨_, De, rows.map rowTx, rfl, rfl, .inl (SqL.of hd2), ?_, ?_⟩
    · have h1' := sum_le (m := 4000) (rows.map rowTx) fun y hy => by
        obtain ⟨r, hr, rfl⟩ := List.mem_map.mp hy
        exact rowTx_le (h1 r hr)
      rw [List.length_map] at h1' ⊢
      have h2' : ("; " : Str).length = 2 := by decide +kernel
      rw [h2']
      omega
    have s12 := s1.trans s2
    refine ⟨_, rfl, S, _, rfl, .inl (SqL.of (s12 _ _ hS)), fun p hp => ⟨by show 1 ≤ sizeLine; decide, fun q hq => ?_⟩⟩
    have sp := Same.new (o := .lst (starts.map V.int)) hp
    have sq := Same.new (o := .lst [.int 0]) hq
    have spq := sp.trans sq
    refine ⟨.list (starts.map PyData.int), .list [.int 0], .lst (SqL.of (sq _ _ upd_same)) (dp_ints starts), .lst (SqL.of upd_same) (.cons (.int 0) .nil), ints_shaped starts, ints_shaped [0], _, rfl, ?_⟩
    rw [intsL_zero]
    refine ifD_2 (fun hz => ?_) (fun hz => ?_)
    · have := kk _ (s12.trans spq)
      have e : ruleTx rows starts = rowsTx rows := by rw [hz, plain_eq]
      rw [e] at this
      exact ⟨_, rfl, this⟩
    · have hrl := rows_le h48 h1
      have h3l : (" | " : Str).length ≤ 3 := by decide +kernel
      have qq := app_le hrl h3l
      refine ⟨_, rfl, _, _, rfl, rfl, big (Nat.le_trans (Nat.add_le_add hrl h3l) (by decide)), ⟨_, rfl⟩, _, rfl, S, rfl, ⟨_, SqL.of (spq _ _ (s12 _ _ hS))⟩, fun Df hF => ?_⟩
      refine lc_same (xs := starts.map V.int) (walk_l (K := K) (a := S) (xs := starts.map V.int)) (by simp; exact Nat.le_trans h3 (by decide)) hF (fun H' s' => SqL.of (s' _ _ (spq _ _ (s12 _ _ hS)))) ((starts.map intS).map V.str) (by simp) (fun i x y H' Φ Ψ hx hy sm kf => ?_) fun H3 s3 hd3 => ?_
      · rw [List.getElem?_map, Option.map_eq_some_iff] at hx
        obtain ⟨z, hz1, rfl⟩ := hx
        rw [List.getElem?_map, List.getElem?_map, hz1] at hy
        cases hy
        have hzz := h2 z (List.mem_of_getElem? hz1)
        refine ⟨rfl, ?_⟩
        dsimp only [tYes]
        rw [if_pos rfl]
        exact ⟨_, rfl, z, rfl, small_log hzz.1 hzz.2, kf H' fun _ _ e => e⟩
      have hw := words_le h3 h2
      have hwl : (wordsTx starts).length ≤ 40000 := Nat.le_trans (join_le " " (starts.map intS)) hw
      refine ⟨_, Df, starts.map intS, rfl, rfl, .inl (SqL.of hd3), Nat.le_trans hw (by decide), _, _, rfl, rfl, big (Nat.le_trans (Nat.add_le_add qq hwl) (by decide)), ?_⟩
      have := kk H3 ((s12.trans spq).trans s3)
      rw [← text_bar hz] at this
      exact this
end
end PA

set_option maxHeartbeats 8000000
namespace PA
open PySem L2 RZ TS
open C8 (pss_cut tCut)
def Flat (x : V) : Prop := (∃ i, x = .int i) ∨ ∃ b, x = .bl b
theorem Two.flat {K : PySem.W.Frag} {H : Hp} {n : Nat} {x : V} (f : Flat x) : Two K H n x x := by
  rcases f with ⟨i, rfl⟩ | ⟨b, rfl⟩
  · exact .int n i
  · exact .bl n b
theorem Two.flatT {K : PySem.W.Frag} {H : Hp} {n : Nat} {a b : Addr} {xs : List V} (ha : SqT K H a xs) (hb : SqT K H b xs) (hz : xs.length ≤ sizeLine) (f : ∀ x ∈ xs, Flat x) : Two K H (n + 1) (.ref a) (.ref b) := by
  refine .tup ha hb rfl hz fun i x y h1 h2 => ?_
  rw [h1] at h2
  have e : x = y := by injection h2
  subst e
  exact .flat (f x (List.mem_of_getElem? h1))
theorem rv_flat (r : Rw) : ∀ x ∈ rv r, Flat x := by
  intro x hx
  rcases List.mem_cons.mp hx with rfl | hx
  · exact .inl ⟨_, rfl⟩
  rcases List.mem_cons.mp hx with rfl | hx
  · exact .inr ⟨_, rfl⟩
  rcases List.mem_cons.mp hx with rfl | hx
  · exact .inl ⟨_, rfl⟩
  cases List.mem_singleton.mp hx
  exact .inr ⟨_, rfl⟩
theorem ints_flat (ns : List Int) : ∀ x ∈ ns.map V.int, Flat x := by
  intro x hx
  obtain ⟨z, _, rfl⟩ := List.mem_map.mp hx
  exact .inl ⟨z, rfl⟩
theorem two_rows {K : PySem.W.Frag} {H : Hp} {t1 t2 : Addr} {xs ys : List V} {rows : List Rw} (h1 : H t1 = some (.tup xs)) (h2 : H t2 = some (.tup ys)) (e1 : Each H isT xs rows) (e2 : Each H isT ys rows) (h48 : rows.length ≤ 48) : Two K H 2 (.ref t1) (.ref t2) := by
  refine .tup (SqT.of h1) (SqT.of h2) (by rw [e1.1, e2.1]) (by rw [e1.1]; exact Nat.le_trans h48 (by decide)) fun i x y hx hy => ?_
  have hi : i < rows.length := by rw [← e1.1]; exact (List.getElem?_eq_some_iff.mp hx).1
  obtain ⟨c, rfl, q⟩ := e1.2 i x _ hx (List.getElem?_eq_getElem hi)
  obtain ⟨d, rfl, q'⟩ := e2.2 i y _ hy (List.getElem?_eq_getElem hi)
  exact .flatT (SqT.of q) (SqT.of q') (by show 4 ≤ sizeLine; decide) (rv_flat _)
theorem two_due {K : PySem.W.Frag} {H : Hp} {tp due RR SS t1 t2 : Addr} {rr refs : List V} {rows : List Rw} {starts : List Int} {k : Int} (h1 : H tp = some (.tup [.ref RR, .ref SS, .int k])) (h2 : H due = some (.tup [.ref t1, .ref t2, .int k])) (hRR : H RR = some (.tup rr)) (ht1 : H t1 = some (.tup refs)) (e1 : Each H isT rr rows) (e2 : Each H isT refs rows)
    (hSS : SqT K H SS (starts.map V.int)) (ht2 : SqT K H t2 (starts.map V.int)) (h48 : rows.length ≤ 48) (h16 : starts.length ≤ 16) : Two K H 3 (.ref tp) (.ref due) := by
  refine .tup (SqT.of h1) (SqT.of h2) rfl (by show 3 ≤ sizeLine; decide) fun i x y hx hy => ?_
  match i, hx, hy with
  | 0, hx, hy =>
    cases hx
    cases hy
    exact two_rows hRR ht1 e1 e2 h48
  | 1, hx, hy =>
    cases hx
    cases hy
    exact .flatT hSS ht2 (by rw [List.length_map]; exact Nat.le_trans h16 (by decide)) (ints_flat _)
  | 2, hx, hy =>
    cases hx
    cases hy
    exact .int _ _
  | (j + 3), hx, _ => simp at hx
/-- the whole program, as far as the law reaches -/
structure Prog (K : PySem.W.Frag) (w : World) (mg : Str → Option Value) (C fI dd g1 g2 g3 g4 fS s1 s2 s3 r1 r2 fRead pRead fDraw fStart fSame fTable fText : Addr) (mc : Value) (dI gd1 gd2 gd3 gd4 dS sd1 sd2 sd3 rd1 rd2 dRead dDraw dStart dSame dTable dText : FuncData) : Prop where
  L : LibR K w mg C fI dd g1 g2 g3 g4 fS s1 s2 s3 r1 r2 dI gd1 gd2 gd3 gd4 dS sd1 sd2 sd3 rd1 rd2
  FR : Fun K "read" "Rule.read" sRead fRead dRead
  bR : Binds K dRead ["text"] []
  cr : ClX.CRead K C mc
  sm : SMet K C mc "read" pRead fRead
  draw : Df K mg "_law_draw" sDraw fDraw dDraw ["_law_stream", "_law_many"]
  start : Df K mg "_law_start" sStart fStart dStart ["_law_script"]
  same : Df K mg "_law_same" sSame fSame dSame ["_law_found", "_law_due"]
  table : Df K mg "_law_m_table" sTable fTable dTable ["_law_stream", "_law_most", "_law_marks"]
  text : Df K mg "_law_m_text" sText fText dText ["_law_rows", "_law_starts"]
def spLaw (K : PySem.W.Frag) : Sp := fun vs H Q _ => ∃ (a : Addr) (ns : List Int), vs = [.ref a] ∧ SqL K H a (ns.map V.int) ∧ ns.length ≤ 63 ∧ ∀ H', Q (.bl true) H'
section
variable {P : Program} {w : World} {K : PySem.W.Frag} {mg : Str → Option Value} {base : Heap}
theorem scLaw : FnScope ["_law_script", "_law_stream", "_law_rows", "_law_starts", "_law_marks", "_law_kind", "_law_rule", "_law_text", "_law_back", "_law_due", "_law_row"] ["_law_script"] (defScope sLaw) := ⟨rfl, rfl, rfl, by decide +kernel, rfl, by decide +kernel, by decide +kernel⟩
theorem ok_law {f C fI dd g1 g2 g3 g4 fS s1 s2 s3 r1 r2 fRead pRead fDraw fStart fSame fTable fText : Addr} {mc : Value} {fd dI gd1 gd2 gd3 gd4 dS sd1 sd2 sd3 rd1 rd2 dRead dDraw dStart dSame dTable dText : FuncData} (F : Fun K "law" "law" sLaw f fd)
    (GG : Prog K w mg C fI dd g1 g2 g3 g4 fS s1 s2 s3 r1 r2 fRead pRead fDraw fStart fSame fTable fText mc dI gd1 gd2 gd3 gd4 dS sd1 sd2 sd3 rd1 rd2 dRead dDraw dStart dSame dTable dText) : FnOk P w K mg base CX0 8 f fd ["_law_script"] (spLaw K) := by
  have T := GG.L.T
  have L := GG.L
  have GI : FnOk P w K mg base CX0 5 fI dI ["self", "rows", "starts"] (spInit K C) := ok_init L.I T L.D1 L.D2 L.D3 L.D4
  have GS : FnOk P w K mg base CX0 3 fS dS ["self"] (spStr K C) := ok_str L.FS T L.TS L.S1 L.S2 L.S3
  have GRead : FnOk P w K mg base CX0 7 fRead dRead ["text"] (spRead K C) := ok_read GG.FR L
  have GDraw : FnOk P w K mg base CX0 1 fDraw dDraw ["_law_stream", "_law_many"] spDraw := ok_draw GG.draw.F T
  have GStart : FnOk P w K mg base CX0 1 fStart dStart ["_law_script"] (spStart K) := ok_start GG.start.F T
  have GTable : FnOk P w K mg base CX0 2 fTable dTable ["_law_stream", "_law_most", "_law_marks"] spTable := ok_table GG.table.F T GG.draw
  have GText : FnOk P w K mg base CX0 1 fText dText ["_law_rows", "_law_starts"] spText := ok_text GG.text.F T L.TS
  have GSame : FnOk P w K mg base CX0 4 fSame dSame ["_law_found", "_law_due"] (spSame K 3) := ok_same GG.same T 3
  refine F.ok scLaw (fun vs H Q E h => ?_) (fun cdv A outer s H vs Q E hr h => ?_)
  · obtain ⟨a, ns, rfl, _⟩ := h
    rfl
  · obtain ⟨a, ns, rfl, hS, hlen, kk⟩ := h
    have hr1 : Room 1 _ := hr.mono (by decide)
    have hr2 : Room 2 _ := hr.mono (by decide)
    have hr4 : Room 4 _ := hr.mono (by decide)
    have hr5 : Room 5 _ := hr.mono (by decide)
    have hr6 : Room 6 _ := hr.mono (by decide)
    refine ⟨_, pss_cons (ps_set (i := 1) scLaw.nd rfl (Or.inl rfl) (pe_call GStart hr1 rfl GG.start.M GG.start.F.kp GG.start.B .nil pass0 (pa_cons (pv 0) pa_nil)))
      (pss_cons (ps_asg (pe_call GTable hr2 rfl GG.table.M GG.table.F.kp GG.table.B .nil pass0 (pa_cons (pv 1) (pa_cons (pe_ix ix_list (pe_lst (pa_cons pe_int (pa_cons pe_int (pa_cons pe_int pa_nil)))) (pe_call GDraw hr1 rfl GG.draw.M GG.draw.F.kp GG.draw.B .nil pass0 (pa_cons (pv 1) (pa_cons pe_int pa_nil))) (fun _ _ => rfl)) (pa_cons pe_int pa_nil))))
        (pg_tup rfl (pgs_cons (pg_name (i := 2) scLaw.nd rfl (Or.inl rfl)) (pgs_cons (pg_name (i := 3) scLaw.nd rfl (Or.inl rfl)) (pgs_cons (pg_name (i := 4) scLaw.nd rfl (Or.inl rfl)) pgs_nil)))))
      (pss_cons (ps_set (i := 5) scLaw.nd rfl (Or.inl rfl) (pe_call GDraw hr1 rfl GG.draw.M GG.draw.F.kp GG.draw.B .nil pass0 (pa_cons (pv 1) (pa_cons pe_int pa_nil))))
      (pss_cut (ps_if (pt_cmpR op_eq (pv 5) pe_int (nomark _)) (pss_one (ps_par (i := 3) (j := 4) (by rfl) scLaw.nd rfl rfl (by decide) rfl rfl (pa_cons (pe_lst (pa_cons pe_int pa_nil)) (pa_cons pe_int pa_nil)) (by rfl))) pss_nil)
      (pss_cut (ps_if (PW.pt (pw_and (pt_cmpR op_eq (pv 5) pe_int (nomark _)) (pw_and1 (pt_cmpR op_eq (pe_call GDraw hr1 rfl GG.draw.M GG.draw.F.kp GG.draw.B .nil pass0 (pa_cons (pv 1) (pa_cons pe_int pa_nil))) pe_int (nomark _)))))
        (pss_one (ps_par (i := 3) (j := 4) (by rfl) scLaw.nd rfl rfl (by decide) rfl rfl (pa_cons (pe_lst (pa_cons (pe_op op_sub (pe_callB call_len_seq (by rfl) T.len_ PySem.boot_len (pa_cons (pv 2) pa_nil)) pe_int) pa_nil)) (pa_cons pe_int pa_nil)) (by rfl))) pss_nil)
      (pss_cons (ps_set (i := 6) scLaw.nd rfl (Or.inl rfl) (pe_make L.M GI hr6 rfl T.mgC L.b2 .nil pass0 (pa_cons (pv 2) (pa_cons (pv 3) pa_nil))))
      (pss_cons (ps_set (i := 7) scLaw.nd rfl (Or.inl rfl) (pe_call GText hr1 rfl GG.text.M GG.text.F.kp GG.text.B .nil pass0 (pa_cons (pv 2) (pa_cons (pv 3) pa_nil))))
      (pss_cons (ps_if (PW.pt (pw_or (pt_cmpR op_ne (pe_callTy (call_strOwn (E := E0) L.mS.at_ L.mS.fn GS hr5 L.bS pass0) (by rfl) L.TS.str_ boot_str' (pa_cons (pv 6) pa_nil)) (pv 7) (nomark _))
          (pw_or1 (pt_not (pt_val (pe_callB call_isi (by rfl) T.isi boot_isi (pa_cons (pe_callTy (call_strOwn (E := E0) L.mS.at_ L.mS.fn GS hr5 L.bS pass0) (by rfl) L.TS.str_ boot_str' (pa_cons (pv 6) pa_nil)) (pa_cons (pe_bltn (v := .ty "str") (by rfl) L.TS.str_ boot_str' rfl) pa_nil))))))) ) pss_never pss_nil)
      (pss_cons (ps_set (i := 8) scLaw.nd rfl (Or.inl rfl) (pe_smeth (pl := _) (pe_glob (v := .ref C) rfl T.mgC rfl) GG.cr GG.sm GRead hr GG.FR.kp GG.bR pass0 (pa_cons (pv 7) pa_nil)))
      (pss_cons (ps_set (i := 9) scLaw.nd rfl (Or.inl rfl) (pe_tup (pa_cons (pe_callTy call_tuple_of (by rfl) T.tup_ boot_tuple' (pa_cons (pe_lc (own := [("_law_row", 10)]) (g := gName 10) (tt := tYes) (by rfl) scLaw.nd (pi_list (pv 2)) (blkOk_by (N := ["_law_script", "_law_stream", "_law_rows", "_law_starts", "_law_marks", "_law_kind", "_law_rule", "_law_text", "_law_back", "_law_due", "_law_row"]) (sc := defScope sLaw) (by decide +kernel))
            (fun _ _ _ _ _ => pg_name (i := 10) scLaw.nd rfl (Or.inl rfl)) (fun _ _ _ _ _ => pts_nil)
            (fun _ _ _ _ _ => pe_callTy (call_tupleK (K := K) rfl) (by rfl) T.tup_ boot_tuple' (pa_cons (pv 10) pa_nil))) pa_nil)) (pa_cons (pe_callTy call_tuple_of (by rfl) T.tup_ boot_tuple' (pa_cons (pv 3) pa_nil)) (pa_cons (pv 4) pa_nil)))))
      (pss_cons (ps_if (pt_not (pt_val (pe_call GSame hr4 rfl GG.same.M GG.same.F.kp GG.same.B .nil pass0 (pa_cons (pe_tup (pa_cons (pe_fld (pv 8) rfl) (pa_cons (pe_fld (pv 8) rfl) (pa_cons (pe_fld (pv 8) rfl) pa_nil)))) (pa_cons (pv 9) pa_nil))))) pss_never pss_nil)
      (pss_one (ps_ret (pe_and (pe_cmpR op_eq (pe_callTy (call_strOwn (E := E0) L.mS.at_ L.mS.fn GS hr5 L.bS pass0) (by rfl) L.TS.str_ boot_str' (pa_cons (pv 8) pa_nil)) (pv 7) (nomark _)) (pe_one (pe_cmpR op_eq (pe_callTy (call_strOwn (E := E0) L.mS.at_ L.mS.fn GS hr5 L.bS pass0) (by rfl) L.TS.str_ boot_str' (pa_cons (pv 6) pa_nil)) (pv 7) (nomark _)))))))))))))))), ?_⟩
    refine ⟨_, rfl, a, ns, rfl, hS, hlen, fun sa sl H1 S1 _ _ s1 => ?_⟩
    refine ⟨_, rfl, by show 3 ≤ sizeLine; decide, fun q hq => ?_⟩
    have sq := Same.new (o := .lst [V.int 3, .int 12, .int 48]) hq
    obtain ⟨qa, ql⟩ := S1.ne hq
    refine ⟨_, rfl, sa, sl, 0, 3, rfl, S1.same sq, by decide, by decide, by decide, fun d H2 d0 d1 S2 k2 => ?_⟩
    obtain ⟨most, hmo, mo1, mo48⟩ : ∃ most : Int, atI [V.int 3, .int 12, .int 48] d = some (.int most) ∧ 1 ≤ most ∧ most ≤ 48 := by
      rcases (by omega : d = 0 ∨ d = 1 ∨ d = 2) with rfl | rfl | rfl
      · exact ⟨3, rfl, by decide, by decide⟩
      · exact ⟨12, rfl, by decide, by decide⟩
      · exact ⟨48, rfl, by decide, by decide⟩
    refine ⟨q, _, _, _, rfl, rfl, SqL.of (k2 _ _ qa ql upd_same), hmo, sa, sl, 1, most, 4, rfl, S2, by decide, mo1, mo48, by decide, by decide, fun t R S0 refs rows starts0 k0 n3 H3 ht hR hE0 hS3 gd0 S3 hn3 k3 Ra Rl Sa Sl _ _ => ?_⟩
    refine ⟨t, _, rfl, SqT.of ht, rfl, _, _, rfl, _, _, rfl, _, _, rfl, rfl, ?_⟩
    refine ⟨_, rfl, sa, sl, n3, 3, rfl, S3, by omega, by decide, by decide, fun kd H4 kd0 kd1 S4 k4 => ?_⟩
    have hR4 := k4 _ _ Ra Rl hR
    have hE4 : Each H4 isT refs rows := hE0.imp fun c r q => isT.kp q S3 k4
    have o1 := gd0.one
    -- plain starts
    refine ⟨fun σ' H' => ∃ S starts k n', σ' = [some (.ref a), some (.ref sa), some (.ref R), some (.ref S), some (.int k), some (.int kd), none, none, none, none, none] ∧ H' S = some (.lst (starts.map V.int)) ∧ S ≠ sa ∧ S ≠ sl ∧ Good rows starts k ∧ StreamAt H' sa sl n' ∧ n' ≤ 600 ∧ H' R = some (.lst refs) ∧ Each H' isT refs rows, ?_, ?_⟩
    · refine ⟨_, rfl, rfl, _, rfl, ifD_2 (fun e => ?_) (fun e => ?_)⟩
      · refine ⟨by show 1 ≤ sizeLine; decide, fun p hp => ⟨_, _, rfl, p, [0], 1, _, rfl, upd_same, (S4.ne hp).1, (S4.ne hp).2, ⟨gd0.one, gd0.most, gd0.ok, .r1, fun s hs => ?_⟩, S4.same (Same.new hp), by omega, Same.new hp _ _ hR4, hE4.sameT (Same.new hp)⟩⟩
        cases List.mem_singleton.mp hs
        omega
      · exact ⟨S0, starts0, k0, _, rfl, k4 _ _ Sa Sl hS3, Sa, Sl, gd0, S4, by omega, hR4, hE4⟩
    rintro _ H5 ⟨S5, starts5, k5, n5, rfl, hS5, S5a, S5l, gd5, St5, hn5, hR5, hE5⟩
    refine ⟨fun σ' H' => ∃ S starts k n', σ' = [some (.ref a), some (.ref sa), some (.ref R), some (.ref S), some (.int k), some (.int kd), none, none, none, none, none] ∧ H' S = some (.lst (starts.map V.int)) ∧ S ≠ sa ∧ S ≠ sl ∧ Good rows starts k ∧ StreamAt H' sa sl n' ∧ n' ≤ 700 ∧ H' R = some (.lst refs) ∧ Each H' isT refs rows, ?_, ?_⟩
    · have hskip : ∃ S starts k n', [some (V.ref a), some (.ref sa), some (.ref R), some (.ref S5), some (.int k5), some (.int kd), none, none, none, none, none] = [some (V.ref a), some (.ref sa), some (.ref R), some (.ref S), some (.int k), some (.int kd), none, none, none, none, none] ∧ H5 S = some (.lst ((starts : List Int).map V.int)) ∧ S ≠ sa ∧ S ≠ sl ∧ Good rows starts k ∧ StreamAt H5 sa sl n' ∧ n' ≤ 700 ∧ H5 R = some (.lst refs) ∧ Each H5 isT refs rows := ⟨S5, starts5, k5, n5, rfl, hS5, S5a, S5l, gd5, St5, by omega, hR5, hE5⟩
      refine ⟨_, rfl, rfl, _, rfl, ifD_2 (fun e => ?_) (fun e => iteF hskip)⟩
      refine ⟨_, rfl, sa, sl, n5, 2, rfl, St5, by omega, by decide, by decide, fun z H6 z0 z1 S6 k6 => ⟨rfl, _, rfl, ifD_2 (fun e => ?_) (fun e => ?_)⟩⟩
      · have hR6 := k6 _ _ Ra Rl hR5
        have hE6 : Each H6 isT refs rows := hE5.imp fun c r q => isT.kp q St5 k6
        refine ⟨_, rfl, R, _, rfl, .inl (SqL.of hR6), _, _, rfl, rfl, by show 1 ≤ sizeLine; decide, fun p hp => ⟨_, _, rfl, p, [(refs.length : Int) - 1], 1, _, rfl, upd_same, (S6.ne hp).1, (S6.ne hp).2, ⟨gd0.one, gd0.most, gd0.ok, .r1, fun s hs => ?_⟩, S6.same (Same.new hp), by omega, Same.new hp _ _ hR6, hE6.sameT (Same.new hp)⟩⟩
        cases List.mem_singleton.mp hs
        have := hE5.1
        omega
      · exact ⟨S5, starts5, k5, _, rfl, k6 _ _ S5a S5l hS5, S5a, S5l, gd5, S6, by omega, k6 _ _ Ra Rl hR5, hE5.imp fun c r q => isT.kp q St5 k6⟩
    rintro _ H6 ⟨S, starts, k, n6, rfl, hS6, _, _, gd, _, _, hR6, hE6⟩
    clear hS5 gd5 St5 hR5 hE5 hR4 hE4 gd0 S4 hS3 hR hE0 k2 k3 k4
    obtain ⟨w1, w2, w3, _, _⟩ := gd48 gd
    have h48 := gd.most
    refine ⟨_, rfl, _, rfl, fun x dx nx ndx nex => mk_rule (.inl (SqL.of hR6)) (hE6.imp fun c r q => .inl q) (.inl (SqL.of hS6)) gd nx ndx nex fun H7 s7 r7 => ⟨rfl, ?_⟩⟩
    have hR7 := s7 _ _ hR6
    have hS7 := s7 _ _ hS6
    have hE7 := hE6.sameT s7
    refine ⟨_, rfl, _, rfl, R, S, refs, rows, starts, k, rfl, hR7, hE7, hS7, gd, fun H8 s8 => ?_⟩
    have r8 := r7.same s8
    obtain ⟨dx8, _, _, _, hx8, _⟩ := id r8
    refine ⟨_, rfl, x, dx8, _, rfl, hx8, x, rows, starts, k, rfl, r8, h48, w1, w3, w2, fun H9 s9 => ⟨_, rfl, _, rfl, rfl, _, rfl, iteNS rfl ?_⟩⟩
    have r9 := r8.same s9
    obtain ⟨dx9, _, _, _, hx9, _⟩ := id r9
    refine ⟨_, rfl, x, dx9, _, rfl, hx9, x, rows, starts, k, rfl, r9, h48, w1, w3, w2, fun H10 s10 => ⟨_, rfl, _, _, _, _, _, rfl, .ty _, .base (.str _), kit_ty (b := "str") (r := true) (by decide +kernel), _, rfl, iteF ?_⟩⟩
    have s810 := s8.trans (s9.trans s10)
    refine ⟨rfl, _, rfl, rows, starts, k, rfl, gd, fun b H11 s11 rb => ?_⟩
    have q11 := s810.trans s11
    have hR11 := q11 _ _ hR7
    refine ⟨_, rfl, R, rfl, ⟨_, SqL.of hR11⟩, fun Dd hD => ?_⟩
    have hlr : refs.length = rows.length := hE6.1
    refine lc_acc (xs := refs) (walk_l (K := K) (a := R) (xs := refs)) (by rw [hlr]; exact Nat.le_trans h48 (by decide)) hD (fun H' s' => SqL.of (s' _ _ hR11)) (fun i acc H' => Each H' isT acc (rows.take i)) (fun i acc H' e => by rw [e.1, List.length_take]; omega) (by rw [List.take_zero]; exact Each.nil) (fun i x' H' acc Φ Ψ hi hx sm hd he kf => ?_) fun H12 acc s12 hd he => ?_
    · have hi' : i < rows.length := by rw [← hlr]; exact hi
      have hr' : rows[i]? = some rows[i] := List.getElem?_eq_getElem hi'
      obtain ⟨c, rfl, hc⟩ := (hE7.sameT q11).2 i x' _ hx hr'
      refine ⟨rfl, ?_⟩
      dsimp only [tYes]
      rw [if_pos rfl]
      refine ⟨_, rfl, c, _, rfl, .inr ⟨SqT.of (sm _ _ hc), kf _ H' (fun _ _ e => e) hd fun H5 h5 b1 b2 => ?_⟩⟩
      rw [take_succ' hr']
      exact Each.push (he.imp fun c' r' z => b1 _ _ (ne_of z hd (by intro z; cases z)) z) (b1 _ _ (ne_of (sm _ _ hc) hd (by intro z; cases z)) (sm _ _ hc))
    rw [hlr, List.take_length] at he
    refine ⟨Dd, _, rfl, .inl ⟨SqL.of hd, fun t1 ht1 => ?_⟩⟩
    have e1 := Same.new (o := .tup acc) ht1
    have q12 := q11.trans (s12.trans e1)
    refine ⟨_, rfl, S, _, rfl, .inl ⟨SqL.of (q12 _ _ hS7), fun t2 ht2 => ⟨_, rfl, by show 3 ≤ sizeLine; decide, fun due hdue => ?_⟩⟩⟩
    have e2 := Same.new (o := .tup (starts.map V.int)) ht2
    have e3 := Same.new (o := .tup [.ref t1, .ref t2, .int k]) hdue
    have e23 := e2.trans e3
    have rb13 := rb.same ((s12.trans e1).trans e23)
    obtain ⟨dxb, RR, SS, rr, hb, hRR, hEE, hSS⟩ := id rb13
    refine ⟨_, rfl, b, C, dxb, _, _, rfl, hb, T.cl, T.nR, rf_rows _ _ _, _, rfl, b, C, dxb, _, _, rfl, hb, T.cl, T.nS, rf_starts _ _ _, _, rfl, b, C, dxb, _, _, rfl, hb, T.cl, T.nM, rf_marks _ _ _, by show 3 ≤ sizeLine; decide, fun fo hfo => ⟨_, rfl, ?_⟩⟩
    have e4 := Same.new (o := .tup [.ref RR, .ref SS, .int k]) hfo
    refine ⟨.ref fo, .ref due, rfl, two_due upd_same (e4 _ _ upd_same) (e4 _ _ hRR) (e4 _ _ (e23 _ _ upd_same)) (hEE.sameT e4) (((he.sameT e1).sameT e23).sameT e4) (SqT.up hSS e4) (SqT.of (e4 _ _ (e3 _ _ upd_same))) h48 w3, fun H14 s14 => ⟨true, rfl, iteF ?_⟩⟩
    have rb14 := rb13.same (e4.trans s14)
    obtain ⟨dx14, _, _, _, hx14, _⟩ := id rb14
    refine ⟨_, rfl, b, dx14, _, rfl, hx14, b, rows, starts, k, rfl, rb14, h48, w1, w3, w2, fun H15 s15 => ⟨_, rfl, _, rfl, rfl, _, rfl, ifD_yes rfl ?_⟩⟩
    have r15 := r8.same ((s9.trans s10).trans (s11.trans ((s12.trans e1).trans (e23.trans (e4.trans (s14.trans s15))))))
    obtain ⟨dx15, _, _, _, hx15, _⟩ := id r15
    refine ⟨_, rfl, x, dx15, _, rfl, hx15, x, rows, starts, k, rfl, r15, h48, w1, w3, w2, fun H16 s16 => ⟨_, rfl, _, rfl, rfl, ?_⟩⟩
    rw [decide_eq_true rfl]
    exact kk _
end
end PA

set_option maxHeartbeats 8000000
namespace PA
open PySem L2 RZ
theorem kit_self {K : PySem.W.Frag} {C : Addr} : PySem.W.kitOne K (.ref C) (.ref C) = some true := by
  unfold PySem.W.kitOne
  rw [if_pos (by simp)]
theorem kit_2 {K : PySem.W.Frag} {C D : Addr} (h1 : (Value.ref D == Value.ref C) = false) (h2 : PySem.W.isClsIn K C = true) (h3 : PySem.W.typeIn K (.ref C) = some (.type "type")) (h4 : PySem.W.subIn K (.ref D) (.ref C) = some false) : PySem.W.kitOne K (.ref D) (.ref C) = some false := by
  have e2 : ((PySem.W.clsIn K C).isSome && PySem.W.typeIn K (.ref C) == some (.type "type")) = true := by
    have h2' : (PySem.W.clsIn K C).isSome = true := h2
    rw [h2', h3] <;> rfl
  unfold PySem.W.kitOne
  rw [h1, if_neg (by simp)]
  show (if ((PySem.W.clsIn K C).isSome && PySem.W.typeIn K (.ref C) == some (.type "type")) = true then PySem.W.subIn K (.ref D) (.ref C) else none) = some false
  rw [if_pos e2]
  exact h4
theorem exm_2 {K : PySem.W.Frag} {S P : Addr} (h1 : PySem.W.subIn K (.ref P) (.type "BaseException") = some true) (h2 : PySem.W.isClsIn K P = true) (h3 : PySem.W.typeIn K (.ref P) = some (.type "type")) (h4 : PySem.W.subIn K (.ref S) (.ref P) = some true) :
    PySem.W.exmOne K (.ref S) (.ref P) = some true := by
  have e2 : ((PySem.W.clsIn K P).isSome && PySem.W.typeIn K (.ref P) == some (.type "type")) = true := by
    have h2' : (PySem.W.clsIn K P).isSome = true := h2
    rw [h2', h3] <;> rfl
  unfold PySem.W.exmOne
  rw [h1, if_pos (by simp)]
  show (if ((PySem.W.clsIn K P).isSome && PySem.W.typeIn K (.ref P) == some (.type "type")) = true then PySem.W.subIn K (.ref S) (.ref P) else none) = some true
  rw [if_pos e2]
  exact h4
theorem kit_cls {K : PySem.W.Frag} {C : Addr} {t : String} (h2 : PySem.W.isClsIn K C = true) (h3 : PySem.W.typeIn K (.ref C) = some (.type "type")) (h4 : PySem.W.subIn K (.type t) (.ref C) = some false) : PySem.W.kitOne K (.type t) (.ref C) = some false := by
  have e2 : ((PySem.W.clsIn K C).isSome && PySem.W.typeIn K (.ref C) == some (.type "type")) = true := by
    have h2' : (PySem.W.clsIn K C).isSome = true := h2
    rw [h2', h3] <;> rfl
  unfold PySem.W.kitOne
  rw [if_neg (by simp)]
  show (if ((PySem.W.clsIn K C).isSome && PySem.W.typeIn K (.ref C) == some (.type "type")) = true then PySem.W.subIn K (.type t) (.ref C) else none) = some false
  rw [if_pos e2]
  exact h4
theorem bI2_of {K : PySem.W.Frag} {f dd : Addr} {fd : FuncData} (F : FunI K f fd dd) : Binds K fd ["self", "rows", "starts"] [] := by
  obtain ⟨ds, hv, hb⟩ := F.binds1 (ps := ["self", "rows", "starts"]) 3 1 (by simp) rfl (fun T kV doc pm an cdv ct us its h1 h2 => match us, h1, its, h2 with | [_, _, _], _, [_], _ => ⟨_, rfl, rfl⟩)
  cases hv
  exact hb
theorem all_mk {l : PySem.W.OpenLaw} {w : World} {K : PySem.W.Frag} {h : Heap} {mg : Str → Option Value} {fa C TT DD gCI DM gStr DP DF_ DG_ pR gRead gisInt gbelow gisRow gcheck growsTx growTx gstTx greadSt greadRow gdraw gstart gsame gtable gtext gLaw : Addr} (X_ : K.In h) (G : h.Ns mainGlobals mg) (hfa : mg "law" = some (.ref fa))
    {oT : Value} {odT : Option Addr} {mT : Nat} {slT : Array (Option Value)} {odD : Option Addr} {tkD : Tok} {mD : Nat} {slD : Array (Option Value)} {ocCI kVCI dcCI pmCI cdCI ctCI : Value} {odCI anCI : Option Addr} {slCI : Array (Option Value)} {x1 x2 x3 x4 y1 y2 y3 y4 : Tok} {nM_ : Nat} {tkM : Tok} {ocStr kVStr dcStr pmStr cdStr ctStr : Value} {odStr anStr : Option Addr} {slStr : Array (Option Value)} {odP : Option Addr} {tkP : Tok} {mP : Nat} {slP : Array (Option Value)} {esF_ : Array DictEntry} {nF__ : Nat} {esG_ : Array DictEntry} {nG__ : Nat} {restR : List Value} {ocRead kVRead dcRead pmRead cdRead ctRead : Value} {odRead anRead : Option Addr} {slRead : Array (Option Value)} {ocisInt kVisInt dcisInt pmisInt cdisInt ctisInt : Value} {odisInt anisInt : Option Addr} {slisInt : Array (Option Value)} {ocbelow kVbelow dcbelow pmbelow cdbelow ctbelow : Value} {odbelow anbelow : Option Addr} {slbelow : Array (Option Value)} {ocisRow kVisRow dcisRow pmisRow cdisRow ctisRow : Value} {odisRow anisRow : Option Addr} {slisRow : Array (Option Value)} {occheck kVcheck dccheck pmcheck cdcheck ctcheck : Value} {odcheck ancheck : Option Addr} {slcheck : Array (Option Value)} {ocrowsTx kVrowsTx dcrowsTx pmrowsTx cdrowsTx ctrowsTx : Value} {odrowsTx anrowsTx : Option Addr} {slrowsTx : Array (Option Value)} {ocrowTx kVrowTx dcrowTx pmrowTx cdrowTx ctrowTx : Value} {odrowTx anrowTx : Option Addr} {slrowTx : Array (Option Value)} {ocstTx kVstTx dcstTx pmstTx cdstTx ctstTx : Value} {odstTx anstTx : Option Addr} {slstTx : Array (Option Value)} {ocreadSt kVreadSt dcreadSt pmreadSt cdreadSt ctreadSt : Value} {odreadSt anreadSt : Option Addr} {slreadSt : Array (Option Value)} {ocreadRow kVreadRow dcreadRow pmreadRow cdreadRow ctreadRow : Value} {odreadRow anreadRow : Option Addr} {slreadRow : Array (Option Value)} {ocdraw kVdraw dcdraw pmdraw cddraw ctdraw : Value} {oddraw andraw : Option Addr} {sldraw : Array (Option Value)} {ocstart kVstart dcstart pmstart cdstart ctstart : Value} {odstart anstart : Option Addr} {slstart : Array (Option Value)} {ocsame kVsame dcsame pmsame cdsame ctsame : Value} {odsame ansame : Option Addr} {slsame : Array (Option Value)} {octable kVtable dctable pmtable cdtable cttable : Value} {odtable antable : Option Addr} {sltable : Array (Option Value)} {octext kVtext dctext pmtext cdtext cttext : Value} {odtext antext : Option Addr} {sltext : Array (Option Value)} {ocLaw kVLaw dcLaw pmLaw cdLaw ctLaw : Value} {odLaw anLaw : Option Addr} {slLaw : Array (Option Value)}
    (aC : PySem.W.nsIn K mainGlobals "Rule" = some (some (.ref C)))
    (pgC : PySem.W.plainGet K C Str.empty = true)
    (hdC : PySem.W.hasDictIn K C = true)
    (poC : PySem.W.plainOver K C = true)
    (saC : PySem.W.findIn K (.ref C) "__setattr__" = some (some (.builtin "object.__setattr__")))
    (kcC : PySem.W.keepIn K (.ref C) = true)
    (mkC : PySem.W.makesIn K C = true)
    (nCrows : PySem.W.findIn K (.ref C) "rows" = some none)
    (nCstarts : PySem.W.findIn K (.ref C) "starts" = some none)
    (nCmarks : PySem.W.findIn K (.ref C) "marks" = some none)
    (aCI : PySem.W.findIn K (.ref C) "__init__" = some (some (.ref gCI)))
    (lCI : K.lookup gCI = some ⟨ocCI, odCI, .func (PySem.W.fnOf "__init__" "Rule.__init__" (defArgs sInit) (defBody sInit) (defScope sInit) (.ref TT) kVCI dcCI pmCI anCI cdCI ctCI), slCI⟩)
    (cCI : PySem.W.codeIn K cdCI "Rule.__init__" = true)
    (kCI : PySem.W.keepIn K (.ref gCI) = true)
    (iCI : PySem.W.isFn K (.ref gCI) = true)
    (lT : K.lookup TT = some ⟨oT, odT, .seq #[.ref DD] mT, slT⟩)
    (lD : K.lookup DD = some ⟨.type "tuple", odD, .seq #[.int 0 tkD] mD, slD⟩)
    (aM : PySem.W.nsIn K mainGlobals "MARKS_OF_STARTS" = some (some (.ref DM)))
    (lM : K.lookup DM = some ⟨.type "dict", none, .dict #[⟨1, .int 1 x1, .int 1 y1⟩, ⟨4, .int 4 x2, .int 2 y2⟩, ⟨9, .int 9 x3, .int 3 y3⟩, ⟨16, .int 16 x4, .int 4 y4⟩] nM_, #[]⟩)
    (lw : (DM == sysModules) = false)
    (aMost : PySem.W.nsIn K mainGlobals "MOST_ROWS" = some (some (.int 48 tkM)))
    (aStr : PySem.W.findIn K (.ref C) "__str__" = some (some (.ref gStr)))
    (lStr : K.lookup gStr = some ⟨ocStr, odStr, .func (PySem.W.fnOf "__str__" "Rule.__str__" (defArgs sStr) (defBody sStr) (defScope sStr) .none kVStr dcStr pmStr anStr cdStr ctStr), slStr⟩)
    (cStr : PySem.W.codeIn K cdStr "Rule.__str__" = true)
    (kStr : PySem.W.keepIn K (.ref gStr) = true)
    (iStr : PySem.W.isFn K (.ref gStr) = true)
    (aP : PySem.W.nsIn K mainGlobals "PLAIN_STARTS" = some (some (.ref DP)))
    (lP : K.lookup DP = some ⟨.type "tuple", odP, .seq #[.int 0 tkP] mP, slP⟩)
    (aF_ : PySem.W.nsIn K mainGlobals "FALLS_OF_WORD" = some (some (.ref DF_)))
    (lF_ : K.lookup DF_ = some { cls := .type "dict", data := .dict esF_ nF__ })
    (kF_ : PySem.W.KeysLit w.params esF_.toList)
    (wF_ : (DF_ == sysModules) = false)
    (oF_fall : PySem.W.nsIn K DF_ "fall" = some (some (.bool true)))
    (oF_stay : PySem.W.nsIn K DF_ "stay" = some (some (.bool false)))
    (aG_ : PySem.W.nsIn K mainGlobals "GOES_OF_WORD" = some (some (.ref DG_)))
    (lG_ : K.lookup DG_ = some { cls := .type "dict", data := .dict esG_ nG__ })
    (kG_ : PySem.W.KeysLit w.params esG_.toList)
    (wG_ : (DG_ == sysModules) = false)
    (oG_go : PySem.W.nsIn K DG_ "go" = some (some (.bool true)))
    (oG_stay : PySem.W.nsIn K DG_ "stay" = some (some (.bool false)))
    (crd : PySem.W.readsIn K C (.type "type") = true)
    (cga : PySem.W.specialIn K (.ref C) "__getattribute__" = some (some (.builtin "type.__getattribute__")))
    (cfi : PySem.W.findCls K (.ref C) (.type "type") "read" = some (.get (.builtin "staticmethod.__get__") (.ref pR) .none (.ref C)))
    (aRead : PySem.W.recIn K pR "staticmethod" = some (.ref gRead :: restR))
    (lRead : K.lookup gRead = some ⟨ocRead, odRead, .func (PySem.W.fnOf "read" "Rule.read" (defArgs sRead) (defBody sRead) (defScope sRead) .none kVRead dcRead pmRead anRead cdRead ctRead), slRead⟩)
    (cRead : PySem.W.codeIn K cdRead "Rule.read" = true)
    (kRead : PySem.W.keepIn K (.ref gRead) = true)
    (chi : PySem.W.handedIn (.ref gRead) = true)
    (zisinstance : PySem.W.nsIn K mainGlobals "isinstance" = some none)
    (zint : PySem.W.nsIn K mainGlobals "int" = some none)
    (zbool : PySem.W.nsIn K mainGlobals "bool" = some none)
    (zlist : PySem.W.nsIn K mainGlobals "list" = some none)
    (ztuple : PySem.W.nsIn K mainGlobals "tuple" = some none)
    (zlen : PySem.W.nsIn K mainGlobals "len" = some none)
    (zall : PySem.W.nsIn K mainGlobals "all" = some none)
    (zzip : PySem.W.nsIn K mainGlobals "zip" = some none)
    (zrange : PySem.W.nsIn K mainGlobals "range" = some none)
    (zstr : PySem.W.nsIn K mainGlobals "str" = some none)
    (aisInt : PySem.W.nsIn K mainGlobals "is_integer" = some (some (.ref gisInt)))
    (lisInt : K.lookup gisInt = some ⟨ocisInt, odisInt, .func (PySem.W.fnOf "is_integer" "is_integer" (defArgs sIsInt) (defBody sIsInt) (defScope sIsInt) .none kVisInt dcisInt pmisInt anisInt cdisInt ctisInt), slisInt⟩)
    (cisInt : PySem.W.codeIn K cdisInt "is_integer" = true)
    (kisInt : PySem.W.keepIn K (.ref gisInt) = true)
    (abelow : PySem.W.nsIn K mainGlobals "is_below" = some (some (.ref gbelow)))
    (lbelow : K.lookup gbelow = some ⟨ocbelow, odbelow, .func (PySem.W.fnOf "is_below" "is_below" (defArgs sBelow) (defBody sBelow) (defScope sBelow) .none kVbelow dcbelow pmbelow anbelow cdbelow ctbelow), slbelow⟩)
    (cbelow : PySem.W.codeIn K cdbelow "is_below" = true)
    (kbelow : PySem.W.keepIn K (.ref gbelow) = true)
    (aisRow : PySem.W.nsIn K mainGlobals "_is_row" = some (some (.ref gisRow)))
    (lisRow : K.lookup gisRow = some ⟨ocisRow, odisRow, .func (PySem.W.fnOf "_is_row" "_is_row" (defArgs sIsRow) (defBody sIsRow) (defScope sIsRow) .none kVisRow dcisRow pmisRow anisRow cdisRow ctisRow), slisRow⟩)
    (cisRow : PySem.W.codeIn K cdisRow "_is_row" = true)
    (kisRow : PySem.W.keepIn K (.ref gisRow) = true)
    (acheck : PySem.W.nsIn K mainGlobals "_check_table" = some (some (.ref gcheck)))
    (lcheck : K.lookup gcheck = some ⟨occheck, odcheck, .func (PySem.W.fnOf "_check_table" "_check_table" (defArgs sCheck) (defBody sCheck) (defScope sCheck) .none kVcheck dccheck pmcheck ancheck cdcheck ctcheck), slcheck⟩)
    (ccheck : PySem.W.codeIn K cdcheck "_check_table" = true)
    (kcheck : PySem.W.keepIn K (.ref gcheck) = true)
    (arowsTx : PySem.W.nsIn K mainGlobals "_rows_text" = some (some (.ref growsTx)))
    (lrowsTx : K.lookup growsTx = some ⟨ocrowsTx, odrowsTx, .func (PySem.W.fnOf "_rows_text" "_rows_text" (defArgs sRowsTx) (defBody sRowsTx) (defScope sRowsTx) .none kVrowsTx dcrowsTx pmrowsTx anrowsTx cdrowsTx ctrowsTx), slrowsTx⟩)
    (crowsTx : PySem.W.codeIn K cdrowsTx "_rows_text" = true)
    (krowsTx : PySem.W.keepIn K (.ref growsTx) = true)
    (arowTx : PySem.W.nsIn K mainGlobals "_row_text" = some (some (.ref growTx)))
    (lrowTx : K.lookup growTx = some ⟨ocrowTx, odrowTx, .func (PySem.W.fnOf "_row_text" "_row_text" (defArgs sRowTx) (defBody sRowTx) (defScope sRowTx) .none kVrowTx dcrowTx pmrowTx anrowTx cdrowTx ctrowTx), slrowTx⟩)
    (crowTx : PySem.W.codeIn K cdrowTx "_row_text" = true)
    (krowTx : PySem.W.keepIn K (.ref growTx) = true)
    (astTx : PySem.W.nsIn K mainGlobals "_starts_text" = some (some (.ref gstTx)))
    (lstTx : K.lookup gstTx = some ⟨ocstTx, odstTx, .func (PySem.W.fnOf "_starts_text" "_starts_text" (defArgs sStartsTx) (defBody sStartsTx) (defScope sStartsTx) .none kVstTx dcstTx pmstTx anstTx cdstTx ctstTx), slstTx⟩)
    (cstTx : PySem.W.codeIn K cdstTx "_starts_text" = true)
    (kstTx : PySem.W.keepIn K (.ref gstTx) = true)
    (areadSt : PySem.W.nsIn K mainGlobals "read_state" = some (some (.ref greadSt)))
    (lreadSt : K.lookup greadSt = some ⟨ocreadSt, odreadSt, .func (PySem.W.fnOf "read_state" "read_state" (defArgs sReadSt) (defBody sReadSt) (defScope sReadSt) .none kVreadSt dcreadSt pmreadSt anreadSt cdreadSt ctreadSt), slreadSt⟩)
    (creadSt : PySem.W.codeIn K cdreadSt "read_state" = true)
    (kreadSt : PySem.W.keepIn K (.ref greadSt) = true)
    (areadRow : PySem.W.nsIn K mainGlobals "_read_row" = some (some (.ref greadRow)))
    (lreadRow : K.lookup greadRow = some ⟨ocreadRow, odreadRow, .func (PySem.W.fnOf "_read_row" "_read_row" (defArgs sReadRow) (defBody sReadRow) (defScope sReadRow) .none kVreadRow dcreadRow pmreadRow anreadRow cdreadRow ctreadRow), slreadRow⟩)
    (creadRow : PySem.W.codeIn K cdreadRow "_read_row" = true)
    (kreadRow : PySem.W.keepIn K (.ref greadRow) = true)
    (adraw : PySem.W.nsIn K mainGlobals "_law_draw" = some (some (.ref gdraw)))
    (ldraw : K.lookup gdraw = some ⟨ocdraw, oddraw, .func (PySem.W.fnOf "_law_draw" "_law_draw" (defArgs sDraw) (defBody sDraw) (defScope sDraw) .none kVdraw dcdraw pmdraw andraw cddraw ctdraw), sldraw⟩)
    (cdraw : PySem.W.codeIn K cddraw "_law_draw" = true)
    (kdraw : PySem.W.keepIn K (.ref gdraw) = true)
    (astart : PySem.W.nsIn K mainGlobals "_law_start" = some (some (.ref gstart)))
    (lstart : K.lookup gstart = some ⟨ocstart, odstart, .func (PySem.W.fnOf "_law_start" "_law_start" (defArgs sStart) (defBody sStart) (defScope sStart) .none kVstart dcstart pmstart anstart cdstart ctstart), slstart⟩)
    (cstart : PySem.W.codeIn K cdstart "_law_start" = true)
    (kstart : PySem.W.keepIn K (.ref gstart) = true)
    (asame : PySem.W.nsIn K mainGlobals "_law_same" = some (some (.ref gsame)))
    (lsame : K.lookup gsame = some ⟨ocsame, odsame, .func (PySem.W.fnOf "_law_same" "_law_same" (defArgs sSame) (defBody sSame) (defScope sSame) .none kVsame dcsame pmsame ansame cdsame ctsame), slsame⟩)
    (csame : PySem.W.codeIn K cdsame "_law_same" = true)
    (ksame : PySem.W.keepIn K (.ref gsame) = true)
    (atable : PySem.W.nsIn K mainGlobals "_law_m_table" = some (some (.ref gtable)))
    (ltable : K.lookup gtable = some ⟨octable, odtable, .func (PySem.W.fnOf "_law_m_table" "_law_m_table" (defArgs sTable) (defBody sTable) (defScope sTable) .none kVtable dctable pmtable antable cdtable cttable), sltable⟩)
    (ctable : PySem.W.codeIn K cdtable "_law_m_table" = true)
    (ktable : PySem.W.keepIn K (.ref gtable) = true)
    (atext : PySem.W.nsIn K mainGlobals "_law_m_text" = some (some (.ref gtext)))
    (ltext : K.lookup gtext = some ⟨octext, odtext, .func (PySem.W.fnOf "_law_m_text" "_law_m_text" (defArgs sText) (defBody sText) (defScope sText) .none kVtext dctext pmtext antext cdtext cttext), sltext⟩)
    (ctext : PySem.W.codeIn K cdtext "_law_m_text" = true)
    (ktext : PySem.W.keepIn K (.ref gtext) = true)
    (aLaw : PySem.W.nsIn K mainGlobals "law" = some (some (.ref gLaw)))
    (lLaw : K.lookup gLaw = some ⟨ocLaw, odLaw, .func (PySem.W.fnOf "law" "law" (defArgs sLaw) (defBody sLaw) (defScope sLaw) .none kVLaw dcLaw pmLaw anLaw cdLaw ctLaw), slLaw⟩)
    (cLaw : PySem.W.codeIn K cdLaw "law" = true)
    (kLaw : PySem.W.keepIn K (.ref gLaw) = true) :
    ∃ fd : FuncData, (∀ (s : Shared) (v : Value), BindsTo s fd ⟨[v], []⟩ [("_law_script", v)]) ∧ ∀ base : Heap, K.In base → base.Ns mainGlobals mg → FnOk l.prog w K mg base CX0 8 fa fd ["_law_script"] (spLaw K) := by
  have e := hfa.symm.trans (PySem.W.mg_of X_ G aLaw)
  cases e
  have FCI : FunI K gCI (PySem.W.fnOf "__init__" "Rule.__init__" (defArgs sInit) (defBody sInit) (defScope sInit) (.ref TT) kVCI dcCI pmCI anCI cdCI ctCI) DD := ⟨⟨_, _, _, _, _, _, _, _, _, _, rfl, lCI, cCI, .inr ⟨by simp, TT, _, [.ref DD], mT, rfl, lT, rfl, .cons rfl .nil⟩, .inl rfl⟩, kCI⟩
  have b1I := FCI.binds1 (ps := ["self", "rows", "starts"]) 2 0 (by simp) rfl (fun T kV doc pm an cdv ct us its h1 h2 => match us, h1, its, h2 with | [_, _], _, [_], _ => ⟨_, rfl, rfl⟩)
  have hdd : ∀ H, SqT K H DD [V.int 0] := fun H => .inr ⟨_, #[.int 0 tkD], mD, lD, rfl, rfl, (by show 1 ≤ sizeLine; decide), .cons ⟨tkD, rfl⟩ .nil⟩
  have FStr := fun_mk (st := sStr) lStr cStr kStr
  have bStr := FStr.binds (ps := ["self"]) fun _ _ _ _ _ _ us hl => match us, hl with | [_], _ => rfl
  have hdp : ∀ H, SqT K H DP [V.int 0] := fun H => .inr ⟨_, #[.int 0 tkP], mP, lP, rfl, rfl, (by show 1 ≤ sizeLine; decide), .cons ⟨tkP, rfl⟩ .nil⟩
  have FRead := fun_mk (st := sRead) lRead cRead kRead
  have bRead := FRead.binds (ps := ["text"]) fun _ _ _ _ _ _ us hl => match us, hl with | [_], _ => rfl
  have FisInt := fun_mk (st := sIsInt) lisInt cisInt kisInt
  have bisInt := FisInt.binds (ps := ["value"]) fun _ _ _ _ _ _ us hl => match us, hl with | [_], _ => rfl
  have Fbelow := fun_mk (st := sBelow) lbelow cbelow kbelow
  have bbelow := Fbelow.binds (ps := ["value", "count"]) fun _ _ _ _ _ _ us hl => match us, hl with | [_, _], _ => rfl
  have FisRow := fun_mk (st := sIsRow) lisRow cisRow kisRow
  have bisRow := FisRow.binds (ps := ["row", "count"]) fun _ _ _ _ _ _ us hl => match us, hl with | [_, _], _ => rfl
  have Fcheck := fun_mk (st := sCheck) lcheck ccheck kcheck
  have bcheck := Fcheck.binds (ps := ["rows", "starts"]) fun _ _ _ _ _ _ us hl => match us, hl with | [_, _], _ => rfl
  have FrowsTx := fun_mk (st := sRowsTx) lrowsTx crowsTx krowsTx
  have browsTx := FrowsTx.binds (ps := ["rows"]) fun _ _ _ _ _ _ us hl => match us, hl with | [_], _ => rfl
  have FrowTx := fun_mk (st := sRowTx) lrowTx crowTx krowTx
  have browTx := FrowTx.binds (ps := ["row"]) fun _ _ _ _ _ _ us hl => match us, hl with | [_], _ => rfl
  have FstTx := fun_mk (st := sStartsTx) lstTx cstTx kstTx
  have bstTx := FstTx.binds (ps := ["starts"]) fun _ _ _ _ _ _ us hl => match us, hl with | [_], _ => rfl
  have FreadSt := fun_mk (st := sReadSt) lreadSt creadSt kreadSt
  have breadSt := FreadSt.binds (ps := ["word"]) fun _ _ _ _ _ _ us hl => match us, hl with | [_], _ => rfl
  have FreadRow := fun_mk (st := sReadRow) lreadRow creadRow kreadRow
  have breadRow := FreadRow.binds (ps := ["piece"]) fun _ _ _ _ _ _ us hl => match us, hl with | [_], _ => rfl
  have Fdraw := fun_mk (st := sDraw) ldraw cdraw kdraw
  have bdraw := Fdraw.binds (ps := ["_law_stream", "_law_many"]) fun _ _ _ _ _ _ us hl => match us, hl with | [_, _], _ => rfl
  have Fstart := fun_mk (st := sStart) lstart cstart kstart
  have bstart := Fstart.binds (ps := ["_law_script"]) fun _ _ _ _ _ _ us hl => match us, hl with | [_], _ => rfl
  have Fsame := fun_mk (st := sSame) lsame csame ksame
  have bsame := Fsame.binds (ps := ["_law_found", "_law_due"]) fun _ _ _ _ _ _ us hl => match us, hl with | [_, _], _ => rfl
  have Ftable := fun_mk (st := sTable) ltable ctable ktable
  have btable := Ftable.binds (ps := ["_law_stream", "_law_most", "_law_marks"]) fun _ _ _ _ _ _ us hl => match us, hl with | [_, _, _], _ => rfl
  have Ftext := fun_mk (st := sText) ltext ctext ktext
  have btext := Ftext.binds (ps := ["_law_rows", "_law_starts"]) fun _ _ _ _ _ _ us hl => match us, hl with | [_, _], _ => rfl
  have PR : Prog K w mg C gCI DD gisInt gbelow gisRow gcheck gStr growsTx growTx gstTx greadSt greadRow gRead pR gdraw gstart gsame gtable gtext (.type "type") (PySem.W.fnOf "__init__" "Rule.__init__" (defArgs sInit) (defBody sInit) (defScope sInit) (.ref TT) kVCI dcCI pmCI anCI cdCI ctCI) (PySem.W.fnOf "is_integer" "is_integer" (defArgs sIsInt) (defBody sIsInt) (defScope sIsInt) .none kVisInt dcisInt pmisInt anisInt cdisInt ctisInt) (PySem.W.fnOf "is_below" "is_below" (defArgs sBelow) (defBody sBelow) (defScope sBelow) .none kVbelow dcbelow pmbelow anbelow cdbelow ctbelow) (PySem.W.fnOf "_is_row" "_is_row" (defArgs sIsRow) (defBody sIsRow) (defScope sIsRow) .none kVisRow dcisRow pmisRow anisRow cdisRow ctisRow) (PySem.W.fnOf "_check_table" "_check_table" (defArgs sCheck) (defBody sCheck) (defScope sCheck) .none kVcheck dccheck pmcheck ancheck cdcheck ctcheck) (PySem.W.fnOf "__str__" "Rule.__str__" (defArgs sStr) (defBody sStr) (defScope sStr) .none kVStr dcStr pmStr anStr cdStr ctStr) (PySem.W.fnOf "_rows_text" "_rows_text" (defArgs sRowsTx) (defBody sRowsTx) (defScope sRowsTx) .none kVrowsTx dcrowsTx pmrowsTx anrowsTx cdrowsTx ctrowsTx) (PySem.W.fnOf "_row_text" "_row_text" (defArgs sRowTx) (defBody sRowTx) (defScope sRowTx) .none kVrowTx dcrowTx pmrowTx anrowTx cdrowTx ctrowTx) (PySem.W.fnOf "_starts_text" "_starts_text" (defArgs sStartsTx) (defBody sStartsTx) (defScope sStartsTx) .none kVstTx dcstTx pmstTx anstTx cdstTx ctstTx) (PySem.W.fnOf "read_state" "read_state" (defArgs sReadSt) (defBody sReadSt) (defScope sReadSt) .none kVreadSt dcreadSt pmreadSt anreadSt cdreadSt ctreadSt) (PySem.W.fnOf "_read_row" "_read_row" (defArgs sReadRow) (defBody sReadRow) (defScope sReadRow) .none kVreadRow dcreadRow pmreadRow anreadRow cdreadRow ctreadRow) (PySem.W.fnOf "read" "Rule.read" (defArgs sRead) (defBody sRead) (defScope sRead) .none kVRead dcRead pmRead anRead cdRead ctRead) (PySem.W.fnOf "_law_draw" "_law_draw" (defArgs sDraw) (defBody sDraw) (defScope sDraw) .none kVdraw dcdraw pmdraw andraw cddraw ctdraw) (PySem.W.fnOf "_law_start" "_law_start" (defArgs sStart) (defBody sStart) (defScope sStart) .none kVstart dcstart pmstart anstart cdstart ctstart) (PySem.W.fnOf "_law_same" "_law_same" (defArgs sSame) (defBody sSame) (defScope sSame) .none kVsame dcsame pmsame ansame cdsame ctsame) (PySem.W.fnOf "_law_m_table" "_law_m_table" (defArgs sTable) (defBody sTable) (defScope sTable) .none kVtable dctable pmtable antable cdtable cttable) (PySem.W.fnOf "_law_m_text" "_law_m_text" (defArgs sText) (defBody sText) (defScope sText) .none kVtext dctext pmtext antext cdtext cttext) := ⟨⟨⟨⟨pgC, hdC, poC, saC⟩, nCrows, nCstarts, nCmarks, PySem.W.mg_of X_ G aC, PySem.W.mg_none_of X_ G zisinstance, PySem.W.mg_none_of X_ G zint, PySem.W.mg_none_of X_ G zbool, PySem.W.mg_none_of X_ G zlist, PySem.W.mg_none_of X_ G ztuple, PySem.W.mg_none_of X_ G zlen, PySem.W.mg_none_of X_ G zall, PySem.W.mg_none_of X_ G zzip, PySem.W.mg_none_of X_ G zrange, ⟨tkM, PySem.W.mg_of X_ G aMost⟩, ⟨DM, PySem.W.mg_of X_ G aM, ⟨⟨x1, x2, x3, x4, y1, y2, y3, y4, nM_, lM⟩, lw⟩⟩⟩, ⟨PySem.W.mg_none_of X_ G zstr, ⟨DP, PySem.W.mg_of X_ G aP, hdp⟩⟩, ⟨⟨DF_, PySem.W.mg_of X_ G aF_, fun b => by cases b; exact ⟨_, _, _, lF_, kF_, wF_, oF_stay, rfl⟩; exact ⟨_, _, _, lF_, kF_, wF_, oF_fall, rfl⟩⟩, ⟨DG_, PySem.W.mg_of X_ G aG_, fun b => by cases b; exact ⟨_, _, _, lG_, kG_, wG_, oG_stay, rfl⟩; exact ⟨_, _, _, lG_, kG_, wG_, oG_go, rfl⟩⟩⟩, FCI, ⟨mkC, aCI, iCI, kcC⟩, bI2_of FCI, ⟨FisInt, bisInt, PySem.W.mg_of X_ G aisInt⟩, ⟨Fbelow, bbelow, PySem.W.mg_of X_ G abelow⟩, ⟨FisRow, bisRow, PySem.W.mg_of X_ G aisRow⟩, ⟨Fcheck, bcheck, PySem.W.mg_of X_ G acheck⟩, FStr, bStr, ⟨aStr, iStr, kStr⟩, ⟨FrowsTx, browsTx, PySem.W.mg_of X_ G arowsTx⟩, ⟨FrowTx, browTx, PySem.W.mg_of X_ G arowTx⟩, ⟨FstTx, bstTx, PySem.W.mg_of X_ G astTx⟩, ⟨FreadSt, breadSt, PySem.W.mg_of X_ G areadSt⟩, ⟨FreadRow, breadRow, PySem.W.mg_of X_ G areadRow⟩⟩, FRead, bRead, ⟨crd, cga⟩, ⟨cfi, ⟨_, aRead⟩, chi⟩, ⟨Fdraw, bdraw, PySem.W.mg_of X_ G adraw⟩, ⟨Fstart, bstart, PySem.W.mg_of X_ G astart⟩, ⟨Fsame, bsame, PySem.W.mg_of X_ G asame⟩, ⟨Ftable, btable, PySem.W.mg_of X_ G atable⟩, ⟨Ftext, btext, PySem.W.mg_of X_ G atext⟩⟩
  exact ⟨PySem.W.fnOf "law" "law" (defArgs sLaw) (defBody sLaw) (defScope sLaw) .none kVLaw dcLaw pmLaw anLaw cdLaw ctLaw, fun s v => .of_eq rfl, fun base _ _ => ok_law (fun_mk (st := sLaw) lLaw cLaw kLaw) PR⟩
theorem walk_ {l : PySem.W.OpenLaw} {q : Program} {loose : List Str} {XP : (Str → Option Value) → Heap → Prop} {YP : World → Heap → Prop} {d : DefRec} {K : Params → PySem.W.Frag} (hn : l.most = some 63) (hdf : d.params.defaults = [])
    (hY : ∀ (w : World) (h : Heap), YP w h → (K w.params).In h)
    (F : ∀ (w : World) (mg : Str → Option Value) (fa : Addr) (h : Heap), (K w.params).In h → h.Ns mainGlobals mg → mg d.name = some (.ref fa) →
      ∃ fd : FuncData, (∀ (s : Shared) (u : Value), BindsTo s fd ⟨[u], []⟩ [("_law_script", u)]) ∧ ∀ base : Heap, (K w.params).In base → base.Ns mainGlobals mg → FnOk l.prog w (K w.params) mg base CX0 8 fa fd ["_law_script"] (spLaw (K w.params))) :
    PySem.W.WalkO q loose XP YP l.row.toRowW d [] (fun f vs => PySem.call f vs) :=
  L2.walk_of (n := 63) (k := 8) (x := "_law_script") (CX := fun _ => CX0) (sp := fun w => spLaw (K w.params)) hn (by decide) hdf ⟨rfl, by decide, by decide⟩ hY F (fun _ _ a ns hl _ hS => ⟨a, ns, rfl, hS, hl, fun _ => rfl⟩) fun _ _ _ _ _ z => z
end PA

open PySem PySem.W PyProof.Rows
set_option maxRecDepth 100000 in
set_option maxHeartbeats 0 in
theorem PySem.Challenge.cw_pairahead_k06_rule_texts_holds : PySem.Challenge.rw_pairahead_k06_rule_texts.Holds := by
  w_on; o_law; k_head; (case hw => w_witness2)
  k_fill
  refine PA.walk_ (l := PySem.Challenge.rw_pairahead_k06_rule_texts) rfl rfl (fun w h Y => PySem.W.kIn_of Y) ?F
  case F =>
    intro w mg fa h KX G hmg
    refine' PA.all_mk KX G hmg ?aC ?pgC ?hdC ?poC ?saC ?kcC ?mkC ?nCrows ?nCstarts ?nCmarks ?aCI ?lCI ?cCI ?kCI ?iCI ?lT ?lD ?aM ?lM ?lw ?aMost ?aStr ?lStr ?cStr ?kStr ?iStr ?aP ?lP ?aF_ ?lF_ ?kF_ ?wF_ ?oF_fall ?oF_stay ?aG_ ?lG_ ?kG_ ?wG_ ?oG_go ?oG_stay ?crd ?cga ?cfi ?aRead ?lRead ?cRead ?kRead ?chi ?zisinstance ?zint ?zbool ?zlist ?ztuple ?zlen ?zall ?zzip ?zrange ?zstr ?aisInt ?lisInt ?cisInt ?kisInt ?abelow ?lbelow ?cbelow ?kbelow ?aisRow ?lisRow ?cisRow ?kisRow ?acheck ?lcheck ?ccheck ?kcheck ?arowsTx ?lrowsTx ?crowsTx ?krowsTx ?arowTx ?lrowTx ?crowTx ?krowTx ?astTx ?lstTx ?cstTx ?kstTx ?areadSt ?lreadSt ?creadSt ?kreadSt ?areadRow ?lreadRow ?creadRow ?kreadRow ?adraw ?ldraw ?cdraw ?kdraw ?astart ?lstart ?cstart ?kstart ?asame ?lsame ?csame ?ksame ?atable ?ltable ?ctable ?ktable ?atext ?ltext ?ctext ?ktext ?aLaw ?lLaw ?cLaw ?kLaw
    (case aC => k_is)
    (case pgC => k_is)
    (case hdC => k_is)
    (case poC => k_is)
    (case saC => k_is)
    (case kcC => k_is)
    (case mkC => k_is)
    (case nCrows => k_is)
    (case nCstarts => k_is)
    (case nCmarks => k_is)
    (case aCI => k_is)
    (case lCI => k_is)
    (case cCI => k_is)
    (case kCI => k_is)
    (case iCI => k_is)
    (case lT => k_is)
    (case lD => k_is)
    (case aM => k_is)
    (case lM => k_is)
    (case lw => first | rfl | decide | k_is)
    (case aMost => k_is)
    (case aStr => k_is)
    (case lStr => k_is)
    (case cStr => k_is)
    (case kStr => k_is)
    (case iStr => k_is)
    (case aP => k_is)
    (case lP => k_is)
    (case aF_ => k_is)
    (case lF_ => k_is)
    (case kF_ => first | exact And.intro (Exists.intro _ (Exists.intro _ (And.intro rfl rfl))) (And.intro (Exists.intro _ (Exists.intro _ (And.intro rfl rfl))) trivial) | exact ⟨⟨_, _, rfl, rfl⟩, ⟨_, _, rfl, rfl⟩, trivial⟩ | (simp only [PySem.W.KeysLit]; exact ⟨⟨_, _, rfl, rfl⟩, ⟨_, _, rfl, rfl⟩, trivial⟩) | (trace_state; k_is))
    (case wF_ => first | rfl | decide | k_is)
    (case oF_fall => k_is)
    (case oF_stay => k_is)
    (case aG_ => k_is)
    (case lG_ => k_is)
    (case kG_ => first | exact And.intro (Exists.intro _ (Exists.intro _ (And.intro rfl rfl))) (And.intro (Exists.intro _ (Exists.intro _ (And.intro rfl rfl))) trivial) | exact ⟨⟨_, _, rfl, rfl⟩, ⟨_, _, rfl, rfl⟩, trivial⟩ | (simp only [PySem.W.KeysLit]; exact ⟨⟨_, _, rfl, rfl⟩, ⟨_, _, rfl, rfl⟩, trivial⟩) | (trace_state; k_is))
    (case wG_ => first | rfl | decide | k_is)
    (case oG_go => k_is)
    (case oG_stay => k_is)
    (case crd => k_is)
    (case cga => k_is)
    (case cfi => k_is)
    (case aRead => k_is)
    (case lRead => k_is)
    (case cRead => k_is)
    (case kRead => k_is)
    (case chi => first | rfl | decide | k_is)
    (case zisinstance => k_is)
    (case zint => k_is)
    (case zbool => k_is)
    (case zlist => k_is)
    (case ztuple => k_is)
    (case zlen => k_is)
    (case zall => k_is)
    (case zzip => k_is)
    (case zrange => k_is)
    (case zstr => k_is)
    (case aisInt => k_is)
    (case lisInt => k_is)
    (case cisInt => k_is)
    (case kisInt => k_is)
    (case abelow => k_is)
    (case lbelow => k_is)
    (case cbelow => k_is)
    (case kbelow => k_is)
    (case aisRow => k_is)
    (case lisRow => k_is)
    (case cisRow => k_is)
    (case kisRow => k_is)
    (case acheck => k_is)
    (case lcheck => k_is)
    (case ccheck => k_is)
    (case kcheck => k_is)
    (case arowsTx => k_is)
    (case lrowsTx => k_is)
    (case crowsTx => k_is)
    (case krowsTx => k_is)
    (case arowTx => k_is)
    (case lrowTx => k_is)
    (case crowTx => k_is)
    (case krowTx => k_is)
    (case astTx => k_is)
    (case lstTx => k_is)
    (case cstTx => k_is)
    (case kstTx => k_is)
    (case areadSt => k_is)
    (case lreadSt => k_is)
    (case creadSt => k_is)
    (case kreadSt => k_is)
    (case areadRow => k_is)
    (case lreadRow => k_is)
    (case creadRow => k_is)
    (case kreadRow => k_is)
    (case adraw => k_is)
    (case ldraw => k_is)
    (case cdraw => k_is)
    (case kdraw => k_is)
    (case astart => k_is)
    (case lstart => k_is)
    (case cstart => k_is)
    (case kstart => k_is)
    (case asame => k_is)
    (case lsame => k_is)
    (case csame => k_is)
    (case ksame => k_is)
    (case atable => k_is)
    (case ltable => k_is)
    (case ctable => k_is)
    (case ktable => k_is)
    (case atext => k_is)
    (case ltext => k_is)
    (case ctext => k_is)
    (case ktext => k_is)
    (case aLaw => k_is)
    (case lLaw => k_is)
    (case cLaw => k_is)
    (case kLaw => k_is)
#print axioms PySem.Challenge.cw_pairahead_k06_rule_texts_holds
