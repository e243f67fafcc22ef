import PyProof.Rows.All
import Wide.All
import OpenK.AllK
import Wide.FinOn
import HandS.ForMost
import HandS.IsInst
import HandS.Zip
import HandS.Wide
import HandS.Codes
import HandS.Evl
import HandS.Conv
import HandS.Defaults
import HandS.MakeKw
import HandS.Walk
import HandS.TupAny
import HandS.Words
import HandS.WordsList
import HandS.Gcd
import HandS.ExcIs
import HandS.TryOnly
import HandS.WordsExc
import PySem.Challenge.RW_pairahead_k05_rules_refused
set_option Elab.async false
set_option linter.all false
set_option maxRecDepth 100000
set_option maxHeartbeats 2000000
namespace PA
/-- below 2 ^ n in size -/
abbrev Sm (n : Nat) (x : Int) : Prop := x.natAbs < 2 ^ n
theorem Sm.mono {n m : Nat} {x : Int} (h : Sm n x) (hn : n ≤ m) : Sm m x := Nat.lt_of_lt_of_le h (Nat.pow_le_pow_right (by decide) hn)
theorem Sm.mul {n m k : Nat} {x y : Int} (hx : Sm n x) (hy : Sm m y) (h : n + m ≤ k) : Sm k (x * y) := by
  refine Sm.mono (n := n + m) ?_ h
  unfold Sm
  rw [Int.natAbs_mul, Nat.pow_add]
  exact Nat.mul_lt_mul'' hx hy
theorem Sm.add {n k : Nat} {x y : Int} (hx : Sm n x) (hy : Sm n y) (h : n + 1 ≤ k) : Sm k (x + y) := by
  refine Sm.mono (n := n + 1) ?_ h
  unfold Sm at *
  rw [Nat.pow_succ]
  omega
theorem Sm.sub {n k : Nat} {x y : Int} (hx : Sm n x) (hy : Sm n y) (h : n + 1 ≤ k) : Sm k (x - y) := by
  refine Sm.mono (n := n + 1) ?_ h
  unfold Sm at *
  rw [Nat.pow_succ]
  omega
theorem Sm.neg {n : Nat} {x : Int} (hx : Sm n x) : Sm n (-x) := by
  unfold Sm at *
  rw [Int.natAbs_neg]
  exact hx
theorem Sm.le {n : Nat} {x y : Int} (hx : Sm n x) (h : y.natAbs ≤ x.natAbs) : Sm n y := Nat.lt_of_le_of_lt h hx
theorem Sm.one {n : Nat} (h : 0 < n) : Sm n 1 := by
  show (1 : Int).natAbs < 2 ^ n
  exact Nat.one_lt_two_pow (by omega)

/-- the divisor that a Ratio shortens by -/
def shr (t b : Int) : Int := if b < 0 then -((Nat.gcd t.natAbs b.natAbs : Nat) : Int) else ((Nat.gcd t.natAbs b.natAbs : Nat) : Int)
/-- lowest terms -/
structure Low (T B : Int) : Prop where
  pos : 0 < B
  cop : Nat.gcd T.natAbs B.natAbs = 1
theorem low_one (i : Int) : Low i 1 := ⟨by decide, Nat.gcd_one_right _⟩
theorem gcd_key {a b c d g : Nat} (h1 : a = c * g) (h2 : b = d * g) : Nat.gcd a b = Nat.gcd c d * g := by
  rw [h1, h2]
  exact Nat.gcd_mul_right _ _ _
theorem rat_mk {t b : Int} (hb : b ≠ 0) : shr t b ≠ 0 ∧ (shr t b).natAbs ≤ b.natAbs ∧ Low (t.fdiv (shr t b)) (b.fdiv (shr t b)) ∧ (t.fdiv (shr t b)) * b = t * (b.fdiv (shr t b)) ∧
    (t.fdiv (shr t b)).natAbs ≤ t.natAbs ∧ (b.fdiv (shr t b)).natAbs ≤ b.natAbs := by
  have hg : 0 < Nat.gcd t.natAbs b.natAbs := Nat.gcd_pos_of_pos_right _ (Int.natAbs_pos.mpr hb)
  have hgb : Nat.gcd t.natAbs b.natAbs ≤ b.natAbs := Nat.gcd_le_right _ (Int.natAbs_pos.mpr hb)
  have hsn : (shr t b).natAbs = Nat.gcd t.natAbs b.natAbs := by
    unfold shr
    split
    · rw [Int.natAbs_neg, Int.natAbs_natCast]
    · rw [Int.natAbs_natCast]
  have hs0 : shr t b ≠ 0 := by
    intro z
    rw [z] at hsn
    simp at hsn
    omega
  have dv : ∀ y : Int, (Nat.gcd t.natAbs b.natAbs) ∣ y.natAbs → ∃ q : Int, y = q * shr t b := by
    intro y hy
    have h1 : ((Nat.gcd t.natAbs b.natAbs : Nat) : Int) ∣ y := Int.ofNat_dvd_left.mpr hy
    obtain ⟨q, hq⟩ := h1
    unfold shr
    split
    · exact ⟨-q, by rw [Int.neg_mul_neg, Int.mul_comm]; exact hq⟩
    · exact ⟨q, by rw [Int.mul_comm]; exact hq⟩
  obtain ⟨T, hT⟩ := dv t (Nat.gcd_dvd_left _ _)
  obtain ⟨B, hB⟩ := dv b (Nat.gcd_dvd_right _ _)
  have eT : t.fdiv (shr t b) = T := by
    conv => lhs; lhs; rw [hT]
    exact Int.mul_fdiv_cancel _ hs0
  have eB : b.fdiv (shr t b) = B := by
    conv => lhs; lhs; rw [hB]
    exact Int.mul_fdiv_cancel _ hs0
  rw [eT, eB]
  have nT : t.natAbs = T.natAbs * Nat.gcd t.natAbs b.natAbs := by
    conv => lhs; rw [hT, Int.natAbs_mul, hsn]
  have nB : b.natAbs = B.natAbs * Nat.gcd t.natAbs b.natAbs := by
    conv => lhs; rw [hB, Int.natAbs_mul, hsn]
  refine ⟨hs0, by rw [hsn]; exact hgb, ⟨?_, ?_⟩, ?_, ?_, ?_⟩
  · have hB0 : B ≠ 0 := by
      intro z
      rw [z, Int.zero_mul] at hB
      exact hb hB
    rcases Int.lt_or_gt_of_ne hB0 with h | h
    · exfalso
      unfold shr at hB
      split at hB
      · rename_i hneg
        have : 0 < B * -((Nat.gcd t.natAbs b.natAbs : Nat) : Int) := Int.mul_pos_of_neg_of_neg h (by omega)
        omega
      · rename_i hneg
        have : B * ((Nat.gcd t.natAbs b.natAbs : Nat) : Int) < 0 := Int.mul_neg_of_neg_of_pos h (by omega)
        omega
    · exact h
  · have e : Nat.gcd t.natAbs b.natAbs = Nat.gcd T.natAbs B.natAbs * Nat.gcd t.natAbs b.natAbs := by
      exact gcd_key nT nB
    have e2 : 1 * Nat.gcd t.natAbs b.natAbs = Nat.gcd T.natAbs B.natAbs * Nat.gcd t.natAbs b.natAbs := by rw [Nat.one_mul]; exact e
    exact (Nat.eq_of_mul_eq_mul_right hg e2).symm
  · calc T * b = T * (B * shr t b) := by rw [← hB]
      _ = (T * shr t b) * B := by rw [Int.mul_comm B, ← Int.mul_assoc]
      _ = t * B := by rw [← hT]
  · rw [nT]; exact Nat.le_mul_of_pos_right _ hg
  · rw [nB]; exact Nat.le_mul_of_pos_right _ hg
/-- a fraction has one lowest form -/
theorem Low.uniq {T B T' B' : Int} (h : Low T B) (h' : Low T' B') (e : T * B' = T' * B) : T = T' ∧ B = B' := by
  have n : T.natAbs * B'.natAbs = T'.natAbs * B.natAbs := by rw [← Int.natAbs_mul, ← Int.natAbs_mul, e]
  have d1 : B.natAbs ∣ B'.natAbs := by
    have : B.natAbs ∣ T.natAbs * B'.natAbs := ⟨T'.natAbs, by rw [n, Nat.mul_comm]⟩
    exact (Nat.Coprime.symm h.cop).dvd_of_dvd_mul_left this
  have d2 : B'.natAbs ∣ B.natAbs := by
    have : B'.natAbs ∣ T'.natAbs * B.natAbs := ⟨T.natAbs, by rw [← n, Nat.mul_comm]⟩
    exact (Nat.Coprime.symm h'.cop).dvd_of_dvd_mul_left this
  have eB : B = B' := by
    have := Nat.dvd_antisymm d1 d2
    have p1 := h.pos
    have p2 := h'.pos
    omega
  subst eB
  have hB : B ≠ 0 := by have := h.pos; omega
  exact ⟨Int.eq_of_mul_eq_mul_right hB e, rfl⟩
theorem Low.neg {T B : Int} (h : Low T B) : Low (-T) B := ⟨h.pos, by rw [Int.natAbs_neg]; exact h.cop⟩
/-- a = n / d and b = n / d -/
theorem cross {a b n d x y : Int} (hb : b ≠ 0) (h1 : a * d = n * b) (h2 : n * y = x * d) (hd : d ≠ 0) : a * y = x * b := by
  have : (a * y) * d = (x * b) * d := by
    calc (a * y) * d = (a * d) * y := by rw [Int.mul_assoc, Int.mul_comm y, ← Int.mul_assoc]
      _ = (n * b) * y := by rw [h1]
      _ = (n * y) * b := by rw [Int.mul_assoc, Int.mul_comm b, ← Int.mul_assoc]
      _ = (x * d) * b := by rw [h2]
      _ = (x * b) * d := by rw [Int.mul_assoc, Int.mul_comm d, ← Int.mul_assoc]
  exact Int.eq_of_mul_eq_mul_right hd this
end PA

set_option maxHeartbeats 2000000
/-! what serves every row -/
namespace L2
open PySem PySem.Spec PyProof.Rows
theorem PI.or {X : Cx} {tg l : Expr} {w1 w2 : TI} (h1 : PI X tg l w1) (h2 : PI X tg l w2) : PI X tg l (fun σ H R => w1 σ H R ∨ w2 σ H R) :=
  ⟨fun pins s σ H R I h => h.elim (h1.run pins s σ H R I) (h2.run pins s σ H R I)⟩
/-- a list or a tuple -/
def Sq (K : PySem.W.Frag) (H : Hp) (a : Addr) (xs : List V) : Prop := SqL K H a xs ∨ SqT K H a xs
theorem SqT.up {K : PySem.W.Frag} {H H' : Hp} {a : Addr} {xs : List V} (h : SqT K H a xs) (e : Same H H') : SqT K H' a xs :=
  h.elim (fun h => .inl (h.elim (fun h => .inl (e _ _ h)) fun ⟨o, h⟩ => .inr ⟨o, e _ _ h⟩)) fun h => .inr h
theorem SqL.up {K : PySem.W.Frag} {H H' : Hp} {a : Addr} {xs : List V} (h : SqL K H a xs) (e : Same H H') : SqL K H' a xs :=
  h.elim (fun h => .inl (h.elim (fun h => .inl (e _ _ h)) fun ⟨o, h⟩ => .inr ⟨o, e _ _ h⟩)) fun h => .inr h
theorem Sq.up {K : PySem.W.Frag} {H H' : Hp} {a : Addr} {xs : List V} (h : Sq K H a xs) (e : Same H H') : Sq K H' a xs := h.imp (fun h => SqL.up h e) fun h => SqT.up h e
theorem walk_l {K : PySem.W.Frag} {a : Addr} {xs : List V} : Walk (Itl K a) xs.length (fun H => SqL K H a xs) (YAt xs) :=
  ⟨fun i H hi q => ⟨xs, xs[i], q, by simp [hi]⟩, fun H q => ⟨xs, q, Nat.le_refl _⟩, fun i H x H' hi q y => ⟨y.1, y.2 xs q⟩⟩
theorem walk_t {K : PySem.W.Frag} {a : Addr} {xs : List V} : Walk (Itt K a) xs.length (fun H => SqT K H a xs) (YAt xs) :=
  ⟨fun i H hi q => ⟨xs, xs[i], q, by simp [hi]⟩, fun H q => ⟨xs, q, Nat.le_refl _⟩, fun i H x H' hi q y => ⟨y.1, y.2 xs q⟩⟩
/-- how a value that is a list or a tuple of xs stands, as one of the two -/
inductive Kind where
  | l | t
def Sk (K : PySem.W.Frag) (k : Kind) (H : Hp) (a : Addr) (xs : List V) : Prop := match k with
  | .l => SqL K H a xs
  | .t => SqT K H a xs
theorem Sk.sq {K : PySem.W.Frag} {k : Kind} {H : Hp} {a : Addr} {xs : List V} (h : Sk K k H a xs) : Sq K H a xs := by
  cases k
  · exact .inl h
  · exact .inr h
theorem Sk.up {K : PySem.W.Frag} {k : Kind} {H H' : Hp} {a : Addr} {xs : List V} (h : Sk K k H a xs) (e : Same H H') : Sk K k H' a xs := by
  cases k
  · exact SqL.up h e
  · exact SqT.up h e
theorem Sq.kind {K : PySem.W.Frag} {H : Hp} {a : Addr} {xs : List V} (h : Sq K H a xs) : ∃ k, Sk K k H a xs := h.elim (fun h => ⟨.l, h⟩) fun h => ⟨.t, h⟩
def ItSq (K : PySem.W.Frag) (k : Kind) (a : Addr) : It := match k with
  | .l => Itl K a
  | .t => Itt K a
theorem walk_k {K : PySem.W.Frag} {k : Kind} {a : Addr} {xs : List V} : Walk (ItSq K k a) xs.length (fun H => Sk K k H a xs) (YAt xs) := by
  cases k
  · exact walk_l
  · exact walk_t
/-- a walk over a list or a tuple -/
def iSq (K : PySem.W.Frag) (tl : TE) : TI := fun σ H R => ∃ k : Kind, tl σ H fun x H1 => ∃ a, x = .ref a ∧ (∃ xs, Sk K k H1 a xs) ∧ R (ItSq K k a) H1
theorem pi_sq {X : Cx} {tg l : Expr} {tl : TE} (hl : PE X l tl) : PI X tg l (iSq X.K tl) := by
  refine ⟨fun pins s σ H R I ⟨k, h⟩ => ?_⟩
  cases k
  · exact (pi_list hl).run pins s σ H R I h
  · exact (pi_tup hl).run pins s σ H R I h
/-! ### comprehensions -/
section
variable {J : It} {n : Nat} {G : Hp → Prop} {xs : List V} {g : TG} {tt : TT} {te : TE} {vs : List Nat} {σ : L2.St} {H1 : Hp} {D : Addr} {Qd : Hp → Prop}
theorem new_ {H : Hp} {p : Addr} {o : HO} (hp : H p = none) : Same H (upd H p o) := fun b u e => by
  rw [upd_ne (ne_of_none e hp)]
  exact e
/-- all but D is as it was -/
def But (D : Addr) (H H' : Hp) : Prop := ∀ c o, c ≠ D → H c = some o → H' c = some o
/-- the values are made one after another, the heap of before stays -/
theorem lc_acc (w : Walk J n G (YAt xs)) (hn : n ≤ sizeLine) (hD : H1 D = none) (hG : ∀ H, Same H1 H → G H) (A : Nat → List V → Hp → Prop) (hl : ∀ i acc H, A i acc H → acc.length ≤ i) (A0 : A 0 [] (upd H1 D (.lst [])))
    (hs : ∀ (i : Nat) (x : V) (H : Hp) (acc : List V) (Φ : V → Hp → Prop) (Ψ : Hp → Prop), i < n → xs[i]? = some x → Same H1 H → H D = some (.lst acc) → A i acc H →
      (∀ y H4, Same H H4 → H4 D = some (.lst acc) → (∀ H5, H5 D = some (.lst (acc ++ [y])) → But D H4 H5 → But D H5 H4 → A (i + 1) (acc ++ [y]) H5) → Φ y H4) →
      g x (wipe σ vs) H fun σ2 H2 => wipe σ2 vs = wipe σ vs ∧ tt σ2 H2 fun b H3 => if b = true then te σ2 H3 Φ else Ψ H3)
    (hd : ∀ H acc, Same H1 H → H D = some (.lst acc) → A n acc H → Qd H) :
    ∃ W : Nat → Nat → Hp → Prop, (∃ m, W 0 m (upd H1 D (.lst []))) ∧ ∀ i m H, W i m H →
      (J.stop i H ∧ Qd H) ∨ (J.go i H ∧ ∃ Nx : Hp → Prop, (∀ H', Nx H' → ∃ m', m' < m ∧ W (i + 1) m' H') ∧ ∀ x H', J.yld i H x H' → g x (wipe σ vs) H' fun σ2 H2 => wipe σ2 vs = wipe σ vs ∧ tt σ2 H2 fun b H3 =>
        if b = true then te σ2 H3 fun y H4 => ∃ acc, H4 D = some (.lst acc) ∧ acc.length < sizeLine ∧ Nx (upd H4 D (.lst (acc ++ [y]))) else Nx H3) := by
  refine lc_it w (fun i H => Same H1 H ∧ ∃ acc, H D = some (.lst acc) ∧ A i acc H) ⟨new_ hD, [], upd_same, A0⟩ (fun i H _ p => hG H p.1) (fun i x H H' hi p y => ?_) fun H p => ?_
  · obtain ⟨rfl, hx⟩ := y
    obtain ⟨sm, acc, hd', ha⟩ := p
    refine hs i x _ acc _ _ hi hx sm hd' ha fun y H4 s4 d4 k => ⟨acc, d4, Nat.lt_of_lt_of_le (Nat.lt_of_le_of_lt (hl _ _ _ ha) hi) hn, fun c o e => ?_, acc ++ [y], upd_same, k _ upd_same (fun c o cd e => ?_) fun c o cd e => ?_⟩
    · rw [upd_ne (ne_of_none e hD)]
      exact s4 _ _ (sm _ _ e)
    · rw [upd_ne cd]
      exact e
    · rw [upd_ne cd] at e
      exact e
  · obtain ⟨sm, acc, hd', ha⟩ := p
    exact hd H acc sm hd' ha
/-- values that do not hang on the heap -/
theorem lc_same (w : Walk J n G (YAt xs)) (hn : n ≤ sizeLine) (hD : H1 D = none) (hG : ∀ H, Same H1 H → G H) (ys : List V) (hy : ys.length = n)
    (hs : ∀ (i : Nat) (x y : V) (H : Hp) (Φ : V → Hp → Prop) (Ψ : Hp → Prop), xs[i]? = some x → ys[i]? = some y → Same H1 H → (∀ H4, Same H H4 → Φ y H4) →
      g x (wipe σ vs) H fun σ2 H2 => wipe σ2 vs = wipe σ vs ∧ tt σ2 H2 fun b H3 => if b = true then te σ2 H3 Φ else Ψ H3)
    (hd : ∀ H, Same H1 H → H D = some (.lst ys) → Qd H) :
    ∃ W : Nat → Nat → Hp → Prop, (∃ m, W 0 m (upd H1 D (.lst []))) ∧ ∀ i m H, W i m H →
      (J.stop i H ∧ Qd H) ∨ (J.go i H ∧ ∃ Nx : Hp → Prop, (∀ H', Nx H' → ∃ m', m' < m ∧ W (i + 1) m' H') ∧ ∀ x H', J.yld i H x H' → g x (wipe σ vs) H' fun σ2 H2 => wipe σ2 vs = wipe σ vs ∧ tt σ2 H2 fun b H3 =>
        if b = true then te σ2 H3 fun y H4 => ∃ acc, H4 D = some (.lst acc) ∧ acc.length < sizeLine ∧ Nx (upd H4 D (.lst (acc ++ [y]))) else Nx H3) := by
  refine lc_acc w hn hD hG (fun i acc _ => acc = ys.take i) (fun i acc H e => by rw [e, List.length_take]; omega) (by rw [List.take_zero]) (fun i x H acc Φ Ψ hi hx sm hd' ha k => ?_) fun H acc sm hd' ha => hd H sm ?_
  · have hi' : i < ys.length := by omega
    have ey : ys[i]? = some ys[i] := List.getElem?_eq_getElem hi'
    refine hs i x ys[i] H Φ Ψ hx ey sm fun H4 s4 => k _ H4 s4 (s4 _ _ hd') fun H5 _ _ _ => ?_
    rw [ha, List.take_add_one, ey]
    rfl
  · rw [hd', ha, ← hy, List.take_length]
end
/-! ### x in an instance with the own method -/
section
variable {X : Cx} {CX : CXT} {k : Nat} {C f : Addr} {fd : FuncData} {ps : List Str} {sp : Sp} {E : XK}
theorem op_inOwn (hs : PySem.W.findIn X.K (.ref C) "__contains__" = some (some (.ref f))) (hf : PySem.W.isFn X.K (.ref f) = true) (F : FnOk X.prog X.w X.K X.mg X.base CX k f fd ps sp) (hr : Room k X.A) (hb : Binds X.K fd ps []) (hx : Passes CX X E) :
    OpR X (compareOp .In) (fun x y H Q => ∃ a dx fs, y = .ref a ∧ H a = some (.ins C dx fs) ∧ sp [.ref a, x] H (fun v H' => ∃ b, v = .bl b ∧ Q (.bl b) H') E) := by
  intro pins s σ H x y v u Q I rx ry h
  obtain ⟨a, dx, fs, rfl, ha, q⟩ := h
  cases ry
  obtain ⟨mA, J, _⟩ := ins_get I.hok ha
  obtain ⟨od, J, _⟩ := J.look
  obtain ⟨m, hF⟩ := I.fr
  refine PySem.W.in_K hF I.ok.mod.kin J hs hf ?_
  refine wpAny_mono (run_fn (us := [.ref a, v]) (vs := [.ref a, x]) F hr hb .nil hx I (.cons rfl (.cons rx .nil)) q) (fun w s' z => ?_) fun _ _ z => z
  obtain ⟨v', H', I', rv, b, rfl, q'⟩ := z
  cases rv
  exact wpAny_truthy_bool ⟨.bl b, H', I', rfl, q'⟩
theorem op_notInOwn (hs : PySem.W.findIn X.K (.ref C) "__contains__" = some (some (.ref f))) (hf : PySem.W.isFn X.K (.ref f) = true) (F : FnOk X.prog X.w X.K X.mg X.base CX k f fd ps sp) (hr : Room k X.A) (hb : Binds X.K fd ps []) (hx : Passes CX X E) :
    OpR X (compareOp .NotIn) (fun x y H Q => ∃ a dx fs, y = .ref a ∧ H a = some (.ins C dx fs) ∧ sp [.ref a, x] H (fun v H' => ∃ b, v = .bl b ∧ Q (.bl (!b)) H') E) := by
  intro pins s σ H x y v u Q I rx ry h
  obtain ⟨a, dx, fs, rfl, ha, q⟩ := h
  cases ry
  obtain ⟨mA, J, _⟩ := ins_get I.hok ha
  obtain ⟨od, J, _⟩ := J.look
  obtain ⟨m, hF⟩ := I.fr
  refine PySem.W.notIn_K hF I.ok.mod.kin J hs hf ?_
  refine wpAny_mono (run_fn (us := [.ref a, v]) (vs := [.ref a, x]) F hr hb .nil hx I (.cons rfl (.cons rx .nil)) q) (fun w s' z => ?_) fun _ _ z => z
  obtain ⟨v', H', I', rv, b, rfl, q'⟩ := z
  cases rv
  exact wpAny_truthy_bool ⟨.bl (!b), H', I', rfl, q'⟩
end
end L2

set_option maxHeartbeats 2000000
namespace L2
open PySem PySem.Spec PyProof.Rows RZ
/-! ### zip, slices of lists and tuples -/
theorem walk_zipT {K : PySem.W.Frag} {a b : Addr} {xs ys : List V} {n : Nat} (hn : n = min xs.length ys.length) : Walk (ItzT K a b) n (fun H => SqT K H a xs ∧ SqT K H b ys) (YPair (fun i => xs[i]?) (fun i => ys[i]?)) :=
  ⟨fun i H hi q => ⟨xs, ys, xs[i]'(by omega), ys[i]'(by omega), q.1, q.2, List.getElem?_eq_getElem _, List.getElem?_eq_getElem _⟩,
    fun H q => ⟨xs, ys, q.1, q.2, by omega⟩, fun i H v H' hi q y => by
      obtain ⟨T, x, y', rfl, hT, rfl, f1, f2⟩ := y
      exact ⟨T, x, y', rfl, hT, rfl, f1 xs q.1, f2 ys q.2⟩⟩
def ItZk (K : PySem.W.Frag) (k : Kind) (a b : Addr) : It := match k with
  | .l => Itz K a b
  | .t => ItzT K a b
theorem walk_zk {K : PySem.W.Frag} {k : Kind} {a b : Addr} {xs ys : List V} {n : Nat} (hn : n = min xs.length ys.length) : Walk (ItZk K k a b) n (fun H => Sk K k H a xs ∧ Sk K k H b ys) (YPair (fun i => xs[i]?) (fun i => ys[i]?)) := by
  cases k
  · exact walk_zip hn
  · exact walk_zipT hn
theorem zip_k {K : PySem.W.Frag} {k : Kind} {H : Hp} {a b : Addr} {xs ys : List V} {R : It → Hp → Prop} (ha : Sk K k H a xs) (hb : Sk K k H b ys) (h : R (ItZk K k a b) H) :
    (SqL K H a xs ∧ SqL K H b ys ∧ R (Itz K a b) H) ∨ (SqT K H a xs ∧ SqT K H b ys ∧ R (ItzT K a b) H) := by
  cases k
  · exact .inl ⟨ha, hb, h⟩
  · exact .inr ⟨ha, hb, h⟩
theorem cut_all {xs : List V} {lo hi : Option Int} (h : HT.sIx xs.length 0 lo = 0 ∧ HT.sIx xs.length xs.length hi = xs.length) : cutV xs lo hi = xs := by
  unfold cutV
  rw [h.1, h.2, List.drop_zero, Nat.sub_zero, List.take_length]
theorem sl_k {K : PySem.W.Frag} {k : Kind} {H : Hp} {a : Addr} {xs : List V} {lo hi : Option Int} {Q : V → Hp → Prop} (ha : Sk K k H a xs) (h : ∀ p H', Same H H' → Sk K k H' p (cutV xs lo hi) → Q (.ref p) H') :
    rSlL K (.ref a) lo hi H Q ∨ rSlA K (.ref a) lo hi H Q := by
  cases k
  · exact .inl ⟨a, xs, rfl, ha, fun p hp => h p _ (new_ hp) (SqL.of upd_same)⟩
  · exact .inr ⟨a, xs, rfl, ha, fun w => h a H (fun _ _ e => e) (by rw [cut_all w]; exact ha), fun _ p hp => h p _ (new_ hp) (SqT.of upd_same)⟩
theorem cut_1 (xs : List V) : cutV xs (some (1 : Int)) none = xs.drop 1 := by
  unfold cutV
  rw [show (1 : Int) = ((1 : Nat) : Int) from rfl, HT.sIx_nat, HT.sIx_none]
  rcases Nat.eq_zero_or_pos xs.length with h | h
  · have : xs = [] := List.length_eq_zero_iff.mp h
    subst this
    rfl
  · rw [Nat.min_eq_left h, List.take_of_length_le (by rw [List.length_drop]; exact Nat.le_refl _)]
theorem cut_to (xs : List V) (n : Nat) : cutV xs none (some (n : Int)) = xs.take n := by
  unfold cutV
  rw [HT.sIx_nat, HT.sIx_none, List.drop_zero, Nat.sub_zero]
  rcases Nat.le_total n xs.length with h | h
  · rw [Nat.min_eq_left h]
  · rw [Nat.min_eq_right h, List.take_length, List.take_of_length_le h]
/-! ### small words -/
theorem take_succ' {α : Type} {l : List α} {i : Nat} {x : α} (h : l[i]? = some x) : l.take (i + 1) = l.take i ++ [x] := by
  rw [List.take_add_one, h]
  rfl
theorem ifD_no {p A B : Prop} [Decidable p] (h : ¬ p) (q : B) : if decide p = true then A else B := by
  rw [decide_eq_false h]
  exact iteF q
theorem ifD_yes {p A B : Prop} [Decidable p] (h : p) (q : A) : if decide p = true then A else B := by
  rw [decide_eq_true h]
  exact iteT q
theorem ifD_2 {p A B : Prop} [Decidable p] (h1 : p → A) (h2 : ¬ p → B) : if decide p = true then A else B := by
  by_cases h : p
  · exact ifD_yes h (h1 h)
  · exact ifD_no h (h2 h)
theorem ifB_2 {b : Bool} {A B : Prop} (h1 : b = true → A) (h2 : b = false → B) : if b = true then A else B := by
  cases b
  · exact iteF (h2 rfl)
  · exact iteT (h1 rfl)
theorem Same.none {H H' : Hp} {x : Addr} (s : Same H H') (h : H' x = Option.none) : H x = Option.none := by
  cases e : H x with
  | none => rfl
  | some o => rw [s _ _ e] at h; cases h
theorem all_true (n : Nat) : (List.replicate n true).all id = true := by
  rw [List.all_eq_true]
  intro x hx
  rw [(List.mem_replicate.mp hx).2]
  rfl
theorem boot_isi : bootBuiltins "isinstance" = some (.builtin "isinstance") := by decide +kernel
theorem boot_int' : bootBuiltins "int" = some (.type "int") := by decide +kernel
theorem boot_bool' : bootBuiltins "bool" = some (.type "bool") := by decide +kernel
theorem boot_tuple' : bootBuiltins "tuple" = some (.type "tuple") := by decide +kernel
theorem boot_list' : bootBuiltins "list" = some (.type "list") := by decide +kernel
theorem boot_all' : bootBuiltins "all" = some (.builtin "all") := by decide +kernel
structure Df (K : PySem.W.Frag) (mg : Str → Option Value) (x : Str) (st : Stmt) (f : Addr) (fd : FuncData) (ps : List Str) : Prop where
  F : Fun K x x st f fd
  B : Binds K fd ps []
  M : mg x = some (.ref f)
def rTupK (K : PySem.W.Frag) : List V → Hp → (V → Hp → Prop) → Prop := fun xs H Q => ∃ p ys, xs = [.ref p] ∧ ((SqL K H p ys ∧ ∀ l, H l = none → Q (.ref l) (upd H l (.tup ys))) ∨ (SqT K H p ys ∧ Q (.ref p) H))
theorem call_tupleK {X : Cx} {K : PySem.W.Frag} (h : X.K = K) : CallR X (.type "tuple") (rTupK K) := h ▸ call_tuple_of
def rLstK (K : PySem.W.Frag) : List V → Hp → (V → Hp → Prop) → Prop := fun xs H Q => ∃ p ys, xs = [.ref p] ∧ (SqL K H p ys ∨ SqT K H p ys) ∧ ∀ l, H l = none → Q (.ref l) (upd H l (.lst ys))
theorem call_listK {X : Cx} {K : PySem.W.Frag} (h : X.K = K) : CallR X (.type "list") (rLstK K) := h ▸ call_list_of
def rLenK (K : PySem.W.Frag) : List V → Hp → (V → Hp → Prop) → Prop := fun xs H Q => ∃ p ys, xs = [.ref p] ∧ (SqL K H p ys ∨ SqT K H p ys) ∧ Q (.int ys.length) H
theorem call_lenK {X : Cx} {K : PySem.W.Frag} (h : X.K = K) : CallR X (.builtin "len") (rLenK K) := h ▸ call_len_seq
def rIxTK (K : PySem.W.Frag) : R2 := fun x y H Q => ∃ p xs i v, x = .ref p ∧ y = .int i ∧ SqT K H p xs ∧ atI xs i = some v ∧ Q v H
theorem ix_tupK {X : Cx} {K : PySem.W.Frag} (h : X.K = K) : IxR X (rIxTK K) := h ▸ ix_tup
/-! ### what stands at each place of a list of references -/
def Ea {α : Type} (H : Hp) (P : Hp → Addr → α → Prop) (xs : List V) (ds : List α) : Prop := xs.length = ds.length ∧ ∀ (i : Nat) (x : V) (r : α), xs[i]? = some x → ds[i]? = some r → ∃ c, x = .ref c ∧ P H c r
section
variable {α : Type} {H H' : Hp} {P P' : Hp → Addr → α → Prop} {xs ys : List V} {ds es : List α} {c : Addr} {r : α}
theorem Ea.imp (e : Ea H P xs ds) (f : ∀ c r, P H c r → P' H' c r) : Ea H' P' xs ds := ⟨e.1, fun i x r h1 h2 => let ⟨c, hx, q⟩ := e.2 i x r h1 h2; ⟨c, hx, f c r q⟩⟩
theorem Ea.nil : Ea H P [] [] := ⟨rfl, fun i x r h _ => by simp at h⟩
theorem Ea.append (e : Ea H P xs ds) (e' : Ea H P ys es) : Ea H P (xs ++ ys) (ds ++ es) := by
  refine ⟨by rw [List.length_append, List.length_append, e.1, e'.1], fun i x r h1 h2 => ?_⟩
  rcases Nat.lt_or_ge i xs.length with hi | hi
  · rw [List.getElem?_append_left hi] at h1
    rw [List.getElem?_append_left (by rw [← e.1]; exact hi)] at h2
    exact e.2 i x r h1 h2
  · rw [List.getElem?_append_right hi] at h1
    rw [List.getElem?_append_right (by rw [← e.1]; exact hi), ← e.1] at h2
    exact e'.2 _ x r h1 h2
theorem Ea.one (q : P H c r) : Ea H P [.ref c] [r] := by
  refine ⟨rfl, fun i x r' h1 h2 => ?_⟩
  match i, h1, h2 with
  | 0, h1, h2 =>
    cases h1
    cases h2
    exact ⟨c, rfl, q⟩
  | (j + 1), h1, _ => simp at h1
theorem Ea.push (e : Ea H P xs ds) (q : P H c r) : Ea H P (xs ++ [.ref c]) (ds ++ [r]) := e.append (.one q)
theorem Ea.get (e : Ea H P xs ds) {i : Nat} {r : α} (h : ds[i]? = some r) : ∃ c, xs[i]? = some (.ref c) ∧ P H c r := by
  have hi : i < xs.length := by rw [e.1]; exact (List.getElem?_eq_some_iff.mp h).1
  obtain ⟨c, hc, q⟩ := e.2 i _ r (List.getElem?_eq_getElem hi) h
  exact ⟨c, by rw [List.getElem?_eq_getElem hi, hc], q⟩
theorem Ea.at_ (e : Ea H P xs ds) {i : Nat} {x : V} (h : xs[i]? = some x) : ∃ c r, x = .ref c ∧ ds[i]? = some r ∧ P H c r := by
  have hi : i < ds.length := by rw [← e.1]; exact (List.getElem?_eq_some_iff.mp h).1
  obtain ⟨c, hc, q⟩ := e.2 i _ _ h (List.getElem?_eq_getElem hi)
  exact ⟨c, _, hc, List.getElem?_eq_getElem hi, q⟩
end
/-- a tuple at c of what r is written as -/
def TupOf {α : Type} (f : α → List V) (H : Hp) (c : Addr) (r : α) : Prop := H c = some (.tup (f r))
section
variable {α : Type} {f : α → List V} {H H' : Hp} {xs : List V} {ds : List α} {c p C dx : Addr} {r : α}
theorem TupOf.lst {ys zs : List V} (q : TupOf f H c r) (hD : H p = some (.lst ys)) : TupOf f (upd H p (.lst zs)) c r := by
  unfold TupOf
  rw [upd_ne (ne_of (H := H) q hD (by intro z; cases z))]
  exact q
theorem TupOf.ins {fs : List (Str × V)} {o : HO} (q : TupOf f H c r) (hp : H p = some (.ins C dx fs)) : TupOf f (upd H p o) c r := by
  unfold TupOf
  rw [upd_ne (ne_of (H := H) q hp (by intro z; cases z))]
  exact q
theorem TupOf.but {ys : List V} (q : TupOf f H c r) (hD : H p = some (.lst ys)) (b : But p H H') : TupOf f H' c r := b _ _ (ne_of (H := H) q hD (by intro z; cases z)) q
theorem Ea.same (e : Ea H (TupOf f) xs ds) (s : Same H H') : Ea H' (TupOf f) xs ds := e.imp fun c r q => s _ _ q
end
end L2

set_option maxHeartbeats 2000000
/-! a written dict of ints -/
namespace L2
open PySem PySem.Spec PyProof.Rows
/-- the entries of {1: 1, 4: 2, 9: 3, 16: 4} -/
def esM (x1 x2 x3 x4 y1 y2 y3 y4 : Tok) : Array DictEntry := #[⟨1, .int 1 x1, .int 1 y1⟩, ⟨4, .int 4 x2, .int 2 y2⟩, ⟨9, .int 9 x3, .int 3 y3⟩, ⟨16, .int 16 x4, .int 4 y4⟩]
structure KMarks (K : PySem.W.Frag) (d : Addr) : Prop where
  at_ : ∃ x1 x2 x3 x4 y1 y2 y3 y4 n, K.lookup d = some ⟨.type "dict", none, .dict (esM x1 x2 x3 x4 y1 y2 y3 y4) n, #[]⟩
  low : (d == sysModules) = false
/-- 1, 4, 9, 16 by their roots -/
inductive Root : Int → Int → Prop where
  | r1 : Root 1 1
  | r2 : Root 4 2
  | r3 : Root 9 3
  | r4 : Root 16 4
theorem root_find {k v : Int} (r : Root k v) (x1 x2 x3 x4 y1 y2 y3 y4 : Tok) : ∃ t, findBy Value.isInt (esM x1 x2 x3 x4 y1 y2 y3 y4) k = some (.int v t) := by
  cases r
  · exact ⟨y1, rfl⟩
  · exact ⟨y2, rfl⟩
  · exact ⟨y3, rfl⟩
  · exact ⟨y4, rfl⟩
section
variable {X : Cx} {d : Addr}
theorem KMarks.map (D : KMarks X.K d) {pins : List (Addr × Obj)} {σ : St} {H : Hp} {s : Shared} (I : Inv X pins σ H s) : ∃ x1 x2 x3 x4 y1 y2 y3 y4, s.heap.MapOf (PySem.intKind X.prog X.w) d (fun k => findBy Value.isInt (esM x1 x2 x3 x4 y1 y2 y3 y4) k) := by
  obtain ⟨x1, x2, x3, x4, y1, y2, y3, y4, n, e⟩ := D.at_
  refine ⟨x1, x2, x3, x4, y1, y2, y3, y4, _, _, n, I.kIn _ _ e, ⟨rfl, rfl, rfl⟩, rfl, ?_, fun _ => rfl⟩
  intro en hen
  have hm : en ∈ (esM x1 x2 x3 x4 y1 y2 y3 y4).toList := Array.mem_toList_iff.mpr hen
  rcases List.mem_cons.mp hm with rfl | hm
  · exact ⟨1, by simp [PySem.intKind, Value.isInt], (by show (1 : Int) = hashInt 1; decide +kernel)⟩
  rcases List.mem_cons.mp hm with rfl | hm
  · exact ⟨4, by simp [PySem.intKind, Value.isInt], (by show (4 : Int) = hashInt 4; decide +kernel)⟩
  rcases List.mem_cons.mp hm with rfl | hm
  · exact ⟨9, by simp [PySem.intKind, Value.isInt], (by show (9 : Int) = hashInt 9; decide +kernel)⟩
  rcases List.mem_cons.mp hm with rfl | hm
  · exact ⟨16, by simp [PySem.intKind, Value.isInt], (by show (16 : Int) = hashInt 16; decide +kernel)⟩
  cases hm
theorem op_notIn_km (D : KMarks X.K d) : OpR X (compareOp .NotIn) (fun x y H Q => ∃ k v, x = .int k ∧ y = .ref d ∧ Root k v ∧ Q (.bl false) H) := by
  intro pins s σ H x y v u Q I rx ry h
  obtain ⟨k, r, rfl, rfl, hr, q⟩ := h
  obtain ⟨t, rfl⟩ := rx
  cases ry
  obtain ⟨x1, x2, x3, x4, y1, y2, y3, y4, hm⟩ := D.map I
  obtain ⟨tk, ef⟩ := root_find hr x1 x2 x3 x4 y1 y2 y3 y4
  refine wpAny_notIn_of (k := k) (by simp [PySem.intKind, Value.isInt]) D.low hm ?_
  rw [ef]
  exact ⟨.bl false, H, I.tok _, rfl, q⟩
theorem ix_km (D : KMarks X.K d) : IxR X (fun x y H Q => ∃ k v, x = .ref d ∧ y = .int k ∧ Root k v ∧ Q (.int v) H) := by
  intro value slice pins s σ H x y v u Q I rx ry h hs
  obtain ⟨k, r, rfl, rfl, hr, q⟩ := h
  obtain rfl : v = Value.ref d := rx
  obtain ⟨t, rfl⟩ := ry
  obtain ⟨x1, x2, x3, x4, y1, y2, y3, y4, hm⟩ := D.map I
  obtain ⟨tk, ef⟩ := root_find hr x1 x2 x3 x4 y1 y2 y3 y4
  exact tail_any hm.typeIs slot_dict_getitem.lookup (wpAny_getItem_of (k := k) (by simp [PySem.intKind, Value.isInt]) hm ef ⟨.int r, H, I.tok _, ⟨tk, rfl⟩, q⟩) hs
/-- the four keys -/
def isRt (k : Int) : Bool := decide (k = 1) || decide (k = 4) || decide (k = 9) || decide (k = 16)
theorem isRt_root {k : Int} (h : isRt k = true) : ∃ v, Root k v := by
  unfold isRt at h
  simp only [Bool.or_eq_true, decide_eq_true_eq] at h
  rcases h with ((rfl | rfl) | rfl) | rfl
  · exact ⟨_, .r1⟩
  · exact ⟨_, .r2⟩
  · exact ⟨_, .r3⟩
  · exact ⟨_, .r4⟩
theorem root_not {k : Int} (h : isRt k = false) (x1 x2 x3 x4 y1 y2 y3 y4 : Tok) : findBy Value.isInt (esM x1 x2 x3 x4 y1 y2 y3 y4) k = none := by
  unfold isRt at h
  simp only [Bool.or_eq_false_iff, decide_eq_false_iff_not] at h
  obtain ⟨⟨⟨h1, h4⟩, h9⟩, h16⟩ := h
  unfold findBy
  rw [Option.map_eq_none_iff, Array.find?_eq_none]
  intro e he
  have hm : e ∈ (esM x1 x2 x3 x4 y1 y2 y3 y4).toList := Array.mem_toList_iff.mpr he
  rcases List.mem_cons.mp hm with rfl | hm
  · simp [Value.isInt, Ne.symm h1]
  rcases List.mem_cons.mp hm with rfl | hm
  · simp [Value.isInt, Ne.symm h4]
  rcases List.mem_cons.mp hm with rfl | hm
  · simp [Value.isInt, Ne.symm h9]
  rcases List.mem_cons.mp hm with rfl | hm
  · simp [Value.isInt, Ne.symm h16]
  cases hm
theorem op_notIn_kx (D : KMarks X.K d) : OpR X (compareOp .NotIn) (fun x y H Q => ∃ k, x = .int k ∧ y = .ref d ∧ Q (.bl (!isRt k)) H) := by
  intro pins s σ H x y v u Q I rx ry h
  obtain ⟨k, rfl, rfl, q⟩ := h
  obtain ⟨t, rfl⟩ := rx
  cases ry
  obtain ⟨x1, x2, x3, x4, y1, y2, y3, y4, hm⟩ := D.map I
  cases e : isRt k with
  | true =>
    obtain ⟨r, hr⟩ := isRt_root e
    obtain ⟨tk, ef⟩ := root_find hr x1 x2 x3 x4 y1 y2 y3 y4
    refine wpAny_notIn_of (k := k) (by simp [PySem.intKind, Value.isInt]) D.low hm ?_
    rw [ef]
    rw [e] at q
    exact ⟨.bl false, H, I.tok _, rfl, q⟩
  | false =>
    refine wpAny_notIn_of (k := k) (by simp [PySem.intKind, Value.isInt]) D.low hm ?_
    rw [root_not e]
    rw [e] at q
    exact ⟨.bl true, H, I.tok _, rfl, q⟩
end
/-! len(x) by the own method -/
section
variable {X : Cx} {CX : CXT} {k : Nat} {C f : Addr} {fd : FuncData} {ps : List Str} {sp : Sp} {E : XK}
theorem call_lenOwn (hs : PySem.W.findIn X.K (.ref C) "__len__" = some (some (.ref f))) (hf : PySem.W.isFn X.K (.ref f) = true) (F : FnOk X.prog X.w X.K X.mg X.base CX k f fd ps sp) (hr : Room (k + 1) X.A) (hb : Binds X.K fd ps []) (hx : Passes CX X E) :
    CallR X (.builtin "len") (fun xs H Q => ∃ a dx fs, xs = [.ref a] ∧ H a = some (.ins C dx fs) ∧ sp [.ref a] H (fun v H' => ∃ n : Nat, v = .int n ∧ n ≤ 1000 ∧ Q (.int n) H') E) := by
  intro pins s σ H xs us Q I r h
  obtain ⟨a, dx, fs, rfl, ha, q⟩ := h
  obtain ⟨u, rfl, ru⟩ := vals1 r
  cases ru
  obtain ⟨mA, J, _⟩ := ins_get I.hok ha
  obtain ⟨od, J, _⟩ := J.look
  obtain ⟨m, hF⟩ := I.fr
  refine PySem.W.len_K hF I.ok.mod.kin J hs hf ?_
  have hl := F.len _ _ _ _ q
  have r2 : Vals [V.ref a] [Value.ref a] := .cons rfl .nil
  refine wpAny_call (codeAny_mono (F.run X.A.in1 X.stack s H ⟨[.ref a], []⟩ [.ref a] [.ref a] _ E hr.in1 I.env0.in1 (by
    have := hb s [.ref a] I.kIn (by simpa using hl)
    simpa using this) r2 q) fun r s' hq => ?_)
  cases r with
  | error e => exact hx pins σ H s e s' I hq
  | ok fl =>
    cases fl with
    | ret w =>
      obtain ⟨v, H', I', rv, n, rfl, hn, q'⟩ := I.after hq
      obtain ⟨t, rfl⟩ := rv
      exact ⟨⟨by omega, by omega⟩, .int n, H', I'.tok _, ⟨_, rfl⟩, q'⟩
    | next => exact False.elim hq
    | brk => exact False.elim hq
    | cont => exact False.elim hq
end
end L2

set_option maxHeartbeats 4000000
namespace PA
open PySem L2 RZ
open C8 (pss_cut tCut)
def top (i : Nat) : Stmt := PySem.Challenge.pw_pairahead_k05_rules_refused.main.body.getD i (.Pass ⟨0, 0, 0, 0⟩)
abbrev sIsInt : Stmt := top 9
abbrev sBelow : Stmt := top 10
abbrev sInit : Stmt := inClass (top 32) 0
abbrev sLen : Stmt := inClass (top 32) 4
abbrev sCheck : Stmt := top 34
abbrev sIsRow : Stmt := top 35
/-! ### cells: what stands in a table, right or wrong -/
inductive Cell (H : Hp) : V → Prop
  | int (i : Int) : Cell H (.int i)
  | bl (b : Bool) : Cell H (.bl b)
  | non : Cell H .non
  | str (s : Str) : Cell H (.str s)
  | tup {a : Addr} {xs : List V} (h : H a = some (.tup xs)) : Cell H (.ref a)
  | lst {a : Addr} {xs : List V} (h : H a = some (.lst xs)) : Cell H (.ref a)
/-- tuples stay, lists stay lists -/
def Kin (H H' : Hp) : Prop := ∀ c, (∀ xs, H c = some (.tup xs) → H' c = some (.tup xs)) ∧ ∀ xs, H c = some (.lst xs) → ∃ ys, H' c = some (.lst ys)
theorem Kin.refl (H : Hp) : Kin H H := fun c => ⟨fun _ h => h, fun xs h => ⟨xs, h⟩⟩
theorem Kin.trans {H H1 H2 : Hp} (h : Kin H H1) (h' : Kin H1 H2) : Kin H H2 := fun c => ⟨fun xs e => (h' c).1 xs ((h c).1 xs e), fun xs e => by
  obtain ⟨ys, q⟩ := (h c).2 xs e
  exact (h' c).2 ys q⟩
theorem Kin.same {H H' : Hp} (s : Same H H') : Kin H H' := fun c => ⟨fun xs e => s _ _ e, fun xs e => ⟨xs, s _ _ e⟩⟩
theorem Kin.lst {H : Hp} {p : Addr} {xs ys : List V} (h : H p = some (.lst xs)) : Kin H (upd H p (.lst ys)) := fun c => by
  by_cases e : c = p
  · subst e
    exact ⟨fun zs q => (by rw [h] at q; cases q), fun zs q => ⟨ys, upd_same⟩⟩
  · rw [upd_ne e]
    exact ⟨fun zs q => q, fun zs q => ⟨zs, q⟩⟩
theorem Kin.ins {H H' : Hp} {p C dx : Addr} {fs : List (Str × V)} (hp : H p = some (.ins C dx fs)) (kp : ∀ c o, H c = some o → c ≠ p → H' c = some o) : Kin H H' := fun c => by
  refine ⟨fun xs e => kp _ _ e ?_, fun xs e => ⟨xs, kp _ _ e ?_⟩⟩
  · rintro rfl; rw [hp] at e; cases e
  · rintro rfl; rw [hp] at e; cases e
theorem Cell.kin {H H' : Hp} {v : V} (c : Cell H v) (k : Kin H H') : Cell H' v := by
  cases c with
  | int i => exact .int i
  | bl b => exact .bl b
  | non => exact .non
  | str s => exact .str s
  | tup h => exact .tup ((k _).1 _ h)
  | lst h => obtain ⟨ys, q⟩ := (k _).2 _ h; exact .lst q
def isI : V → Bool
  | .int _ => true
  | _ => false
def isB : V → Bool
  | .bl _ => true
  | _ => false
def below (n : Nat) : V → Bool
  | .int i => decide (0 ≤ i) && decide (i < (n : Int))
  | _ => false
def rowOk (n : Nat) : List V → Bool
  | [a, f, b, g] => below n a && below n b && (isB f && isB g)
  | _ => false
def tabOk (rows : List (List V)) (starts : List V) : Bool :=
  (decide (1 ≤ rows.length) && decide (rows.length ≤ 48)) && rows.all (rowOk rows.length) && isRt (starts.length : Int) && starts.all (below rows.length)
theorem Cell.ty {K : PySem.W.Frag} {H : Hp} {v : V} (c : Cell H v) : ∃ t, TyX K H v (.type t) ∧ PySem.W.kitOne K (.type t) (.type "int") = some (isI v || isB v) ∧ PySem.W.kitOne K (.type t) (.type "bool") = some (isB v) := by
  cases c with
  | int i => exact ⟨"int", .base (.int i), kit_ty (b := "int") (r := true) (by decide +kernel), kit_ty (b := "bool") (r := false) (by decide +kernel)⟩
  | bl b => exact ⟨"bool", .base (.bl b), kit_ty (b := "int") (r := true) (by decide +kernel), kit_ty (b := "bool") (r := true) (by decide +kernel)⟩
  | non => exact ⟨"NoneType", .base .non, kit_ty (b := "int") (r := false) (by decide +kernel), kit_ty (b := "bool") (r := false) (by decide +kernel)⟩
  | str s => exact ⟨"str", .base (.str s), kit_ty (b := "int") (r := false) (by decide +kernel), kit_ty (b := "bool") (r := false) (by decide +kernel)⟩
  | tup h => exact ⟨"tuple", .base (.tup h), kit_ty (b := "int") (r := false) (by decide +kernel), kit_ty (b := "bool") (r := false) (by decide +kernel)⟩
  | lst h => exact ⟨"list", .base (.lst h), kit_ty (b := "int") (r := false) (by decide +kernel), kit_ty (b := "bool") (r := false) (by decide +kernel)⟩
def rf (R S : Addr) (k : Int) : List (Str × V) := putF "marks" (.int k) (putF "starts" (.ref S) (putF "rows" (.ref R) []))
theorem rs_ : ¬ (("rows" : Str) = "starts") := by decide +kernel
theorem rm_ : ¬ (("rows" : Str) = "marks") := by decide +kernel
theorem sm_ : ¬ (("starts" : Str) = "marks") := by decide +kernel
theorem rf_rows (R S : Addr) (k : Int) : (rf R S k).lookup ("rows" : Str) = some (.ref R) := by
  unfold rf
  rw [lookup_putF, if_neg rm_, lookup_putF, if_neg rs_, lookup_putF, if_pos rfl]
theorem rf_marks (R S : Addr) (k : Int) : (rf R S k).lookup ("marks" : Str) = some (.int k) := by
  unfold rf
  rw [lookup_putF, if_pos rfl]
theorem rf_no (R S : Addr) (k : Int) {m : Str} (h1 : ¬ m = "marks") (h2 : ¬ m = "starts") (h3 : ¬ m = "rows") : (rf R S k).lookup m = none := by
  unfold rf
  rw [lookup_putF, if_neg h1, lookup_putF, if_neg h2, lookup_putF, if_neg h3]
  all_goals rfl
/-- a Rule of n rows with k marks stands at p -/
def RuleAt (C : Addr) (H : Hp) (p : Addr) (n : Nat) (k : Int) : Prop := ∃ dx R S refs, H p = some (.ins C dx (rf R S k)) ∧ H R = some (.tup refs) ∧ refs.length = n
theorem RuleAt.same {C : Addr} {H H' : Hp} {p : Addr} {n : Nat} {k : Int} (r : RuleAt C H p n k) (s : Same H H') : RuleAt C H' p n k := by
  obtain ⟨dx, R, S, refs, h1, h2, h3⟩ := r
  exact ⟨dx, R, S, refs, s _ _ h1, s _ _ h2, h3⟩
structure Txt (K : PySem.W.Frag) (mg : Str → Option Value) (C : Addr) : Prop where
  cl : Cls K C
  nR : NoAttr K C "rows"
  nS : NoAttr K C "starts"
  nM : NoAttr K C "marks"
  mgC : mg "Rule" = some (.ref C)
  isi : mg "isinstance" = none
  int_ : mg "int" = none
  bool_ : mg "bool" = none
  list_ : mg "list" = none
  tup_ : mg "tuple" = none
  len_ : mg "len" = none
  all_ : mg "all" = none
  range_ : mg "range" = none
  most : ∃ t, mg "MOST_ROWS" = some (.int 48 t)
  marks : ∃ d, mg "MARKS_OF_STARTS" = some (.ref d) ∧ KMarks K d
/-- an error class X, caught as P -/
structure TxtX (K : PySem.W.Frag) (mg : Str → Option Value) (X P : Addr) : Prop where
  x : PySem.W.excIn K X [.type "ValueError", .type "Exception", .type "BaseException", .type "object"] "ValueError.__new__" = true
  g : mg "InvalidRule" = some (.ref X)
  k : PySem.W.keepIn K (.ref X) = true
  b : PySem.W.subIn K (.ref X) (.type "BaseException") = some true
  t : PySem.W.typeIn K (.ref X) = some (.type "type")
  gP : mg "PairError" = some (.ref P)
  e : PySem.W.exmOne K (.ref X) (.ref P) = some true
theorem ifN_yes {p A B : Prop} [Decidable p] (h : ¬ p) (q : A) : if (!decide p) = true then A else B := by
  rw [decide_eq_false h]
  exact iteT q
theorem ifN_2 {p A B : Prop} [Decidable p] (h1 : ¬ p → A) (h2 : p → B) : if (!decide p) = true then A else B := by
  by_cases h : p
  · rw [decide_eq_true h]
    exact iteF (h2 h)
  · exact ifN_yes h (h1 h)
/-! ### promises -/
def spIsInt : Sp := fun vs H Q _ => ∃ v, vs = [v] ∧ Cell H v ∧ Q (.bl (isI v)) H
def spBelow : Sp := fun vs H Q _ => ∃ (v : V) (n : Nat), vs = [v, .int (n : Int)] ∧ Cell H v ∧ Q (.bl (below n v)) H
def spIsRow : Sp := fun vs H Q _ => ∃ (p : Addr) (xs : List V) (n : Nat), vs = [.ref p, .int (n : Int)] ∧ H p = some (.tup xs) ∧ (∀ x ∈ xs, Cell H x) ∧ Q (.bl (rowOk n xs)) H
section
variable {P : Program} {w : World} {K : PySem.W.Frag} {mg : Str → Option Value} {base : Heap} {C : Addr}
theorem scIsInt : FnScope ["value"] ["value"] (defScope sIsInt) := ⟨rfl, rfl, rfl, by decide +kernel, rfl, by decide +kernel, by decide +kernel⟩
theorem ok_isInt {f : Addr} {fd : FuncData} (F : Fun K "is_integer" "is_integer" sIsInt f fd) (T : Txt K mg C) : FnOk P w K mg base CX0 1 f fd ["value"] spIsInt := by
  refine F.ok scIsInt (fun vs H Q E h => ?_) (fun cdv A outer s H vs Q E hr h => ?_)
  · obtain ⟨i, rfl, _⟩ := h
    rfl
  · obtain ⟨v, rfl, hc, k⟩ := h
    refine ⟨_, pss_one (ps_ret (pe_and (pe_callB call_isi (by rfl) T.isi boot_isi (pa_cons (pv 0) (pa_cons (pe_bltn (v := .ty "int") (by rfl) T.int_ boot_int' rfl) pa_nil)))
      (pe_one (pe_not (pe_callB call_isi (by rfl) T.isi boot_isi (pa_cons (pv 0) (pa_cons (pe_bltn (v := .ty "bool") (by rfl) T.bool_ boot_bool' rfl) pa_nil))))))), ?_⟩
    obtain ⟨t, ht, k1, k2⟩ := hc.ty (K := K)
    refine ⟨_, rfl, _, _, _, _, _, rfl, .ty _, ht, k1, _, rfl, ?_⟩
    cases v with
    | int i => exact iteT ⟨_, rfl, _, _, _, _, _, rfl, .ty _, ht, k2, _, rfl, k⟩
    | bl b => exact iteT ⟨_, rfl, _, _, _, _, _, rfl, .ty _, ht, k2, _, rfl, k⟩
    | _ => exact iteF k
theorem scBelow : FnScope ["value", "count"] ["value", "count"] (defScope sBelow) := ⟨rfl, rfl, rfl, by decide +kernel, rfl, by decide +kernel, by decide +kernel⟩
theorem ok_below {f g : Addr} {fd gd : FuncData} (F : Fun K "is_below" "is_below" sBelow f fd) (T : Txt K mg C) (D : Df K mg "is_integer" sIsInt g gd ["value"]) : FnOk P w K mg base CX0 2 f fd ["value", "count"] spBelow := by
  have G : FnOk P w K mg base CX0 1 g gd ["value"] spIsInt := ok_isInt D.F T
  refine F.ok scBelow (fun vs H Q E h => ?_) (fun cdv A outer s H vs Q E hr h => ?_)
  · obtain ⟨v, c, rfl, _⟩ := h
    rfl
  · obtain ⟨v, n, rfl, hc, k⟩ := h
    refine ⟨_, pss_one (ps_ret (pe_and (pe_call G hr rfl D.M D.F.kp D.B .nil pass0 (pa_cons (pv 0) pa_nil)) (pe_one (pe_chain op_le op_lt pe_int (pv 0) (pv 1))))), ?_⟩
    refine ⟨_, rfl, v, rfl, hc, _, rfl, ?_⟩
    cases v with
    | int i =>
      refine iteT ⟨_, rfl, _, _, rfl, rfl, _, rfl, ifD_2 (fun h0 => ⟨_, rfl, _, _, rfl, rfl, ?_⟩) fun h0 => ?_⟩
      · show Q (V.bl (decide (i < (n : Int)))) H
        have e : below n (.int i) = decide (i < (n : Int)) := by show (decide (0 ≤ i) && decide (i < (n : Int))) = _; rw [decide_eq_true h0, Bool.true_and]
        rw [← e]
        exact k
      · have e : below n (.int i) = false := by show (decide (0 ≤ i) && decide (i < (n : Int))) = _; rw [decide_eq_false h0, Bool.false_and]
        rw [e] at k
        exact k
    | _ => exact iteF k
theorem scIsRow : FnScope ["row", "count", "next_ahead", "falls", "next_behind", "goes"] ["row", "count"] (defScope sIsRow) := ⟨rfl, rfl, rfl, by decide +kernel, rfl, by decide +kernel, by decide +kernel⟩
theorem ok_isRow {f g1 g2 : Addr} {fd gd1 gd2 : FuncData} (F : Fun K "_is_row" "_is_row" sIsRow f fd) (T : Txt K mg C) (D1 : Df K mg "is_integer" sIsInt g1 gd1 ["value"]) (D2 : Df K mg "is_below" sBelow g2 gd2 ["value", "count"]) : FnOk P w K mg base CX0 3 f fd ["row", "count"] spIsRow := by
  have G : FnOk P w K mg base CX0 2 g2 gd2 ["value", "count"] spBelow := ok_below D2.F T D1
  refine F.ok scIsRow (fun vs H Q E h => ?_) (fun cdv A outer s H vs Q E hr h => ?_)
  · obtain ⟨p, r, n, rfl, _⟩ := h
    rfl
  · obtain ⟨p, xs, n, rfl, hp, hc, k⟩ := h
    refine ⟨_, pss_cons (ps_if (pt_cmpR op_ne (pe_callB call_len_seq (by rfl) T.len_ PySem.boot_len (pa_cons (pv 0) pa_nil)) pe_int (nomark _)) (pss_one (ps_ret pe_bl)) pss_nil)
      (pss_cons (ps_asg (pv 0) (pg_tup rfl (pgs_cons (pg_name (i := 2) scIsRow.nd rfl (Or.inl rfl)) (pgs_cons (pg_name (i := 3) scIsRow.nd rfl (Or.inl rfl)) (pgs_cons (pg_name (i := 4) scIsRow.nd rfl (Or.inl rfl)) (pgs_cons (pg_name (i := 5) scIsRow.nd rfl (Or.inl rfl)) pgs_nil))))))
      (pss_cons (ps_if (PW.pt (pw_or (pt_not (pt_val (pe_call G hr rfl D2.M D2.F.kp D2.B .nil pass0 (pa_cons (pv 2) (pa_cons (pv 1) pa_nil))))) (pw_or1 (pt_not (pt_val (pe_call G hr rfl D2.M D2.F.kp D2.B .nil pass0 (pa_cons (pv 4) (pa_cons (pv 1) pa_nil)))))))) (pss_one (ps_ret pe_bl)) pss_nil)
      (pss_one (ps_ret (pe_and (pe_callB call_isi (by rfl) T.isi boot_isi (pa_cons (pv 3) (pa_cons (pe_bltn (v := .ty "bool") (by rfl) T.bool_ boot_bool' rfl) pa_nil))) (pe_one (pe_callB call_isi (by rfl) T.isi boot_isi (pa_cons (pv 5) (pa_cons (pe_bltn (v := .ty "bool") (by rfl) T.bool_ boot_bool' rfl) pa_nil))))))))), ?_⟩
    refine ⟨_, rfl, p, _, rfl, .inr (SqT.of hp), rfl, _, rfl, ?_⟩
    by_cases h4 : xs.length = 4
    · obtain ⟨a, fl, b, go, rfl⟩ : ∃ a fl b go, xs = [a, fl, b, go] := by
        match xs, h4 with
        | [a, fl, b, go], _ => exact ⟨a, fl, b, go, rfl⟩
      have ca := hc a (by simp)
      have cb := hc b (by simp)
      have cf := hc fl (by simp)
      have cg := hc go (by simp)
      refine iteNS rfl ?_
      refine ⟨_, rfl, p, _, rfl, SqT.of hp, rfl, _, _, rfl, _, _, rfl, _, _, rfl, _, _, rfl, rfl, ?_⟩
      refine ⟨_, rfl, _, rfl, a, _, rfl, ca, _, rfl, ?_⟩
      have hk : Q (V.bl ((below n a && below n b) && (isB fl && isB go))) H := k
      cases ea : below n a with
      | false =>
        rw [ea] at hk
        exact iteT hk
      | true =>
        refine iteF ⟨_, rfl, _, rfl, b, _, rfl, cb, _, rfl, ?_⟩
        cases eb : below n b with
        | false =>
          rw [ea, eb] at hk
          exact iteT hk
        | true =>
          refine iteF ?_
          rw [ea, eb] at hk
          obtain ⟨t, ht, _, k2⟩ := cf.ty (K := K)
          obtain ⟨t', ht', _, k2'⟩ := cg.ty (K := K)
          refine ⟨_, rfl, _, _, _, _, _, rfl, .ty _, ht, k2, _, rfl, ?_⟩
          cases ef : isB fl with
          | false =>
            rw [ef] at hk
            exact iteF hk
          | true =>
            rw [ef] at hk
            exact iteT ⟨_, rfl, _, _, _, _, _, rfl, .ty _, ht', k2', hk⟩
    · refine ifN_yes (by intro z; injection z with z; exact h4 (by omega)) ?_
      have e : rowOk n xs = false := by
        unfold rowOk
        split
        · exact absurd rfl h4
        · rfl
      rw [e] at k
      exact k
end
end PA

set_option maxHeartbeats 2000000
namespace PA
open PySem L2 RZ
open C8 (pss_cut tCut)
abbrev sDraw : Stmt := top 41
abbrev sStart : Stmt := top 42
abbrev sPick : Stmt := top 43
abbrev sTable : Stmt := top 44
abbrev sHanded : Stmt := top 45
abbrev sRefused : Stmt := top 46
abbrev sFault : Stmt := top 47
abbrev sLaw : Stmt := top 48
/-! ### data of ints -/
theorem ints_lay : ∀ ns : List Int, PyData.canLayAll0 (ns.map PyData.int) = true
  | [] => by simp [PyData.canLayAll0]
  | z :: zs => by simp [PyData.canLayAll0, PyData.canLay0, ints_lay zs]
theorem ints_depth : ∀ ns : List Int, PyData.depthAll (ns.map PyData.int) ≤ 2
  | [] => by simp [PyData.depthAll]
  | z :: zs => by
    have h1 := ints_depth zs
    simp only [List.map_cons, PyData.depthAll, PyData.depth]
    omega
theorem ints_shaped (ns : List Int) : SeqAt.shaped (.list (ns.map PyData.int)) = true := by
  have h1 := ints_depth ns
  have h2 : PyData.depth (.list (ns.map PyData.int)) ≤ 64 := by
    simp only [PyData.depth]
    omega
  show (PyData.canLay0 (.list (ns.map PyData.int)) && decide (PyData.depth (.list (ns.map PyData.int)) ≤ 64)) = true
  rw [Bool.and_eq_true]
  exact ⟨by simp only [PyData.canLay0]; exact ints_lay ns, decide_eq_true h2⟩
theorem dp_ints {K : PySem.W.Frag} {H : Hp} : ∀ ns : List Int, DpAll K H (ns.map V.int) (ns.map PyData.int)
  | [] => .nil
  | z :: zs => .cons (.int z) (dp_ints zs)
theorem ints_nil (ns : List Int) : PyData.eqv (.list (ns.map PyData.int)) (.list []) = ns.isEmpty := by
  cases ns with
  | nil => simp [PyData.eqv, PyData.eqvAll]
  | cons z zs => simp [PyData.eqv, PyData.eqvAll]
/-! ### the stream of draws: the list at a, the numbers left at l, n draws made -/
def StreamAt (H : Hp) (a l : Addr) (n : Nat) : Prop := a ≠ l ∧ ∃ (ns : List Int) (x z : Int), H a = some (.lst [.ref l, .int x, .int (n : Int), .int z]) ∧ H l = some (.lst (ns.map V.int)) ∧ ns.length ≤ 63 ∧ 0 ≤ x ∧ 0 ≤ z ∧ z < 2147483647
/-- all but the stream is kept -/
def Keep (a l : Addr) (H H' : Hp) : Prop := ∀ c o, c ≠ a → c ≠ l → H c = some o → H' c = some o
theorem Keep.refl (a l : Addr) (H : Hp) : Keep a l H H := fun _ _ _ _ h => h
theorem Keep.trans {a l : Addr} {H H1 H2 : Hp} (h : Keep a l H H1) (h' : Keep a l H1 H2) : Keep a l H H2 := fun c o x y e => h' c o x y (h c o x y e)
theorem Keep.of {a l : Addr} {H H' : Hp} (h : Same H H') : Keep a l H H' := fun c o _ _ e => h c o e
theorem StreamAt.same {H H' : Hp} {a l : Addr} {n : Nat} (h : StreamAt H a l n) (s : Same H H') : StreamAt H' a l n := by
  obtain ⟨ne, ns, x, z, h1, h2, h3⟩ := h
  exact ⟨ne, ns, x, z, s _ _ h1, s _ _ h2, h3⟩
def spDraw : Sp := fun vs H Q _ => ∃ (a l : Addr) (n : Nat) (many : Int), vs = [.ref a, .int many] ∧ StreamAt H a l n ∧ n ≤ 100000 ∧ 0 < many ∧ Sm 9000 many ∧
  ∀ (r : Int) (H' : Hp), 0 ≤ r → r < many → StreamAt H' a l (n + 1) → Keep a l H H' → Q (.int r) H'
section
variable {P : Program} {w : World} {K : PySem.W.Frag} {mg : Str → Option Value} {base : Heap} {C : Addr}
theorem scDraw : FnScope ["_law_stream", "_law_many", "_law_digit", "_law_mixed"] ["_law_stream", "_law_many"] (defScope sDraw) := ⟨rfl, rfl, rfl, by decide +kernel, rfl, by decide +kernel, by decide +kernel⟩
theorem ok_draw {f : Addr} {fd : FuncData} (F : Fun K "_law_draw" "_law_draw" sDraw f fd) (T : Txt K mg C) : FnOk P w K mg base CX0 1 f fd ["_law_stream", "_law_many"] spDraw := by
  refine F.ok scDraw (fun vs H Q E h => ?_) (fun cdv A outer s H vs Q E hr h => ?_)
  · obtain ⟨a, l, n, many, rfl, _⟩ := h
    rfl
  · obtain ⟨a, l, n, many, rfl, ⟨ne, ns, x, z, h1, h2, hl, hx, hz0, hz1⟩, hn, hm, hms, k⟩ := h
    have hW : ∀ j : Int, CDivW j many := fun j => ⟨hm, Nat.lt_of_lt_of_le (PySem.Flt.log2_lt_of (by decide) hms) (Nat.le_refl _)⟩
    refine ⟨_, pss_cut (ps_asg (pe_op op_add (pe_ix ix_list (pv 0) pe_int (fun _ _ => rfl)) pe_int) (pg_sub (pv 0) pe_int set_list))
      (pss_cut (ps_if (PW.pt (pw_and (pt_cmpR op_eq (pe_ix ix_list (pv 0) pe_int (fun _ _ => rfl)) pe_int (nomark _)) (pw_and1 (pt_cmpR (op_neD hr.units) (pe_ix ix_list (pv 0) pe_int (fun _ _ => rfl)) (pe_lst pa_nil) (nomark _)))))
        (pss_cons (ps_asg (pe_bm PySem.F.plainAttrs_list PySem.F.slot_list_pop PySem.F.type_list_pop mt_popAt (pe_ix ix_list (pv 0) pe_int (fun _ _ => rfl)) (pa_cons pe_int pa_nil)) (pg_sub (pv 0) pe_int set_list))
          (pss_one (ps_if (pt_cmpR op_lt (pe_ix ix_list (pv 0) pe_int (fun _ _ => rfl)) (pe_op op_pow pe_int pe_int) (nomark _))
            (pss_cons (ps_asg (pe_op op_mod (pe_callTy call_int1 (by rfl) T.int_ boot_int' (pa_cons (pe_op op_add (pe_op op_add (pe_op op_mul (pe_ix ix_list (pv 0) pe_int (fun _ _ => rfl)) pe_int) (pe_ix ix_list (pv 0) pe_int (fun _ _ => rfl))) pe_int) pa_nil)) pe_int) (pg_sub (pv 0) pe_int set_list))
              (pss_one (ps_asg pe_int (pg_sub (pv 0) pe_int set_list)))) pss_nil))) pss_nil)
      (pss_cons (ps_if (pt_cmpR op_gt (pe_ix ix_list (pv 0) pe_int (fun _ _ => rfl)) pe_int (nomark _))
        (pss_cons (ps_set (i := 2) scDraw.nd rfl (Or.inl rfl) (pe_op op_mod (pe_callTy call_int1 (by rfl) T.int_ boot_int' (pa_cons (pe_ix ix_list (pv 0) pe_int (fun _ _ => rfl)) pa_nil)) (pv 1)))
          (pss_cons (ps_asg (pe_op op_fdivW (pe_ix ix_list (pv 0) pe_int (fun _ _ => rfl)) (pv 1)) (pg_sub (pv 0) pe_int set_list))
            (pss_one (ps_ret (pv 2))))) pss_nil)
      (pss_cons (ps_set (i := 3) scDraw.nd rfl (Or.inl rfl) (pe_op op_mod (pe_op op_pow (pe_op op_add (pe_op op_add (pe_ix ix_list (pv 0) pe_int (fun _ _ => rfl)) (pe_op op_mul pe_int (pe_ix ix_list (pv 0) pe_int (fun _ _ => rfl)))) pe_int) pe_int) pe_int))
      (pss_one (ps_ret (pe_op op_mod (pe_op op_mod (pe_op op_pow (pe_op op_add (pe_op op_add (pe_op op_mul (pv 3) pe_int) (pe_op op_mul (pe_op op_mul pe_int (pe_ix ix_list (pv 0) pe_int (fun _ _ => rfl))) (pe_ix ix_list (pv 0) pe_int (fun _ _ => rfl)))) pe_int) pe_int) pe_int) (pv 1))))))), ?_⟩
    refine ⟨fun σ' H' => σ' = [some (V.ref a), some (V.int many), none, none] ∧ H' = upd H a (.lst [.ref l, .int x, .int ((n : Int) + 1), .int z]), ?_, ?_⟩
    · exact ⟨_, rfl, a, _, 2, _, rfl, rfl, SqL.of h1, rfl, _, _, rfl, rfl, _, rfl, a, _, 2, 2, rfl, rfl, h1, rfl, rfl, rfl⟩
    rintro _ _ ⟨rfl, rfl⟩
    refine ⟨fun σ' H' => σ' = [some (V.ref a), some (V.int many), none, none] ∧ ∃ (ns' : List Int) (x' z' : Int), H' a = some (.lst [.ref l, .int x', .int ((n : Int) + 1), .int z']) ∧ H' l = some (.lst (ns'.map V.int)) ∧ ns'.length ≤ 63 ∧ 0 ≤ x' ∧ 0 ≤ z' ∧ z' < 2147483647 ∧ Keep a l H H', ?_, ?_⟩
    · have kp1 : Keep a l H (upd H a (.lst [.ref l, .int x, .int ((n : Int) + 1), .int z])) := fun c o ca _ e => by rw [upd_ne ca]; exact e
      have hl1 : (upd H a (.lst [.ref l, .int x, .int ((n : Int) + 1), .int z])) l = some (.lst (ns.map V.int)) := by rw [upd_ne ne.symm]; exact h2
      refine ⟨_, rfl, a, _, 1, _, rfl, rfl, SqL.of upd_same, rfl, rfl, _, rfl, ifD_2 (fun hx0 => ?_) (fun _ => iteF ?_)⟩
      · refine ⟨_, rfl, a, _, 0, _, rfl, rfl, SqL.of upd_same, rfl, Nat.zero_le _, fun p hp => ?_⟩
        have npa : a ≠ p := fun e => by rw [← e, upd_same] at hp; cases hp
        have npl : l ≠ p := ne_of_none hl1 hp
        have kp2 : Keep a l H (upd (upd H a (.lst [.ref l, .int x, .int ((n : Int) + 1), .int z])) p (.lst [])) := fun c o ca cl e => by
          rw [upd_ne (ne_of_none (kp1 c o ca cl e) hp)]; exact kp1 c o ca cl e
        refine ⟨.list (ns.map PyData.int), .list [], .lst (SqL.of (by rw [upd_ne npl]; exact hl1)) (dp_ints ns), .lst (SqL.of upd_same) .nil, ints_shaped ns, ints_shaped [], _, rfl, ?_⟩
        rw [ints_nil]
        cases ns with
        | nil => exact iteF ⟨rfl, [], x, z, by rw [upd_ne npa, upd_same], by rw [upd_ne npl]; exact hl1, Nat.zero_le _, hx, hz0, hz1, kp2⟩
        | cons y ys =>
          refine iteT ?_
          have ga : (upd (upd H a (.lst [.ref l, .int x, .int ((n : Int) + 1), .int z])) p (.lst [])) a = some (.lst [.ref l, .int x, .int ((n : Int) + 1), .int z]) := by rw [upd_ne npa, upd_same]
          have gl : (upd (upd H a (.lst [.ref l, .int x, .int ((n : Int) + 1), .int z])) p (.lst [])) l = some (.lst ((y :: ys).map V.int)) := by rw [upd_ne npl]; exact hl1
          generalize (upd (upd H a (.lst [.ref l, .int x, .int ((n : Int) + 1), .int z])) p (.lst [])) = Hb at ga gl kp2
          refine ⟨_, rfl, a, _, 0, _, rfl, rfl, SqL.of ga, rfl, .inl ⟨rfl, _, SqL.of gl⟩, l, _, 0, 0, .int y, rfl, rfl, gl, by decide, by decide, (ixN_seq (Evl.ixN_nat (j := 0) (by simp))).1, rfl, ?_⟩
          have ga2 : (upd Hb l (.lst (((y :: ys).map V.int).eraseIdx 0))) a = some (.lst [.ref l, .int x, .int ((n : Int) + 1), .int z]) := by rw [upd_ne ne]; exact ga
          refine ⟨_, rfl, a, _, 1, 1, rfl, rfl, ga2, rfl, ?_⟩
          have kp3 : ∀ o, Keep a l H (upd (upd Hb l (.lst (((y :: ys).map V.int).eraseIdx 0))) a o) := fun o c u ca cl e => by rw [upd_ne ca, upd_ne cl]; exact kp2 c u ca cl e
          have gl3 : ∀ o, (upd (upd Hb l (.lst (((y :: ys).map V.int).eraseIdx 0))) a o) l = some (.lst (ys.map V.int)) := fun o => by rw [upd_ne ne.symm, upd_same]; rfl
          have hys : ys.length ≤ 63 := Nat.le_trans (Nat.le_succ _) hl
          refine ⟨_, rfl, a, _, 1, _, rfl, rfl, SqL.of upd_same, rfl, 10, 18, rfl, rfl, (by show CPow 10 18; unfold CPow; decide), _, _, rfl, rfl, _, rfl, ifD_2 (fun hy => ?_) (fun hy => ?_)⟩
          · refine ⟨_, rfl, a, _, 3, _, rfl, rfl, SqL.of upd_same, rfl, _, _, rfl, rfl, .inr (by decide), _, rfl, a, _, 1, _, rfl, rfl, SqL.of upd_same, rfl, _, _, rfl, rfl, _, _, rfl, rfl, .inl ⟨_, rfl, _, _, rfl, rfl, (by show (0 : Int) < 2147483647; decide), _, rfl, a, _, 3, 3, rfl, rfl, upd_same, rfl, ?_⟩⟩
            refine ⟨_, rfl, a, _, 1, 1, rfl, rfl, upd_same, rfl, ?_⟩
            rw [upd_upd, upd_upd]
            exact ⟨rfl, ys, 0, (z * 31 + y + 7) % 2147483647, upd_same, gl3 _, hys, by decide, Int.emod_nonneg _ (by decide), Int.emod_lt_of_pos _ (by decide), kp3 _⟩
          · exact ⟨rfl, ys, y, z, upd_same, gl3 _, hys, by
              have h18 : (0 : Int) ≤ 10 ^ (18 : Int).toNat := by decide
              omega, hz0, hz1, kp3 _⟩
      · exact ⟨rfl, ns, x, z, upd_same, hl1, hl, hx, hz0, hz1, kp1⟩
    rintro _ H1 ⟨rfl, ns', x', z', g1, g2, gl, gx, gz0, gz1, kp⟩
    refine ⟨_, rfl, a, _, 1, _, rfl, rfl, SqL.of g1, rfl, _, _, rfl, rfl, _, rfl, ifD_2 (fun hp => ?_) (fun _ => ?_)⟩
    · refine ⟨_, rfl, a, _, 1, _, rfl, rfl, SqL.of g1, rfl, .inl ⟨_, rfl, _, rfl, _, _, rfl, rfl, hm, ?_⟩⟩
      refine ⟨_, rfl, a, _, 1, _, rfl, rfl, SqL.of g1, rfl, _, rfl, _, _, rfl, rfl, hW _, _, rfl, a, _, 1, 1, rfl, rfl, g1, rfl, _, rfl, ?_⟩
      refine k (x' % many) _ (Int.emod_nonneg _ (by omega)) (Int.emod_lt_of_pos _ hm) ⟨ne, ns', x' / many, z', upd_same, by rw [upd_ne ne.symm]; exact g2, gl, Int.ediv_nonneg gx (by omega), gz0, gz1⟩ fun c o ca cl e => by
        rw [upd_ne ca]; exact kp c o ca cl e
    · have hn' : (n : Int) ≤ 100000 := by omega
      have hn0 : (0 : Int) ≤ n := by omega
      refine ⟨_, rfl, a, _, 3, _, rfl, rfl, SqL.of g1, rfl, _, rfl, a, _, 2, _, rfl, rfl, SqL.of g1, rfl, _, _, rfl, rfl, .inl (by decide), _, _, rfl, rfl, _, _, rfl, rfl, _, _, rfl, rfl, ?_, _, _, rfl, rfl, (by show (0 : Int) < 2147483629; decide), ?_⟩
      · show CPow _ 5
        refine ⟨by decide, by decide, ?_⟩
        have e64 : (2 : Nat) ^ 64 = 18446744073709551616 := by decide
        rw [e64]
        omega
      · generalize hmx : ((z' + 104729 * ((n : Int) + 1) + 17) ^ (5 : Int).toNat) % 2147483629 = mx
        have m0 : 0 ≤ mx := by rw [← hmx]; exact Int.emod_nonneg _ (by decide)
        have m1 : mx < 2147483629 := by rw [← hmx]; exact Int.emod_lt_of_pos _ (by decide)
        refine ⟨_, rfl, _, _, rfl, rfl, .inr (by decide), _, rfl, a, _, 2, _, rfl, rfl, SqL.of g1, rfl, _, _, rfl, rfl, .inl (by decide), _, rfl, a, _, 2, _, rfl, rfl, SqL.of g1, rfl, _, _, rfl, rfl, .inr ?_, _, _, rfl, rfl, _, _, rfl, rfl, _, _, rfl, rfl, ?_, _, _, rfl, rfl, (by show (0 : Int) < 1000000007; decide), _, rfl, _, _, rfl, rfl, hm, ?_⟩
        · have e64 : (2 : Int) ^ 64 = 18446744073709551616 := by decide
          rw [e64]
          omega
        · show CPow _ 3
          refine ⟨by decide, by decide, ?_⟩
          have e64 : (2 : Nat) ^ 64 = 18446744073709551616 := by decide
          rw [e64]
          have q0 : 0 ≤ 40503 * ((n : Int) + 1) * ((n : Int) + 1) := Int.mul_nonneg (by omega) (by omega)
          have q1 : 40503 * ((n : Int) + 1) * ((n : Int) + 1) ≤ 40503 * 100001 * 100001 := Int.mul_le_mul (by omega) (by omega) (by omega) (by decide)
          omega
        · exact k _ _ (Int.emod_nonneg _ (by omega)) (Int.emod_lt_of_pos _ hm) ⟨ne, ns', x', z', g1, g2, gl, gx, gz0, gz1⟩ kp
end
theorem sm9000 {x : Int} {n : Nat} (h : Sm n x) (hn : n ≤ 9000) : Sm 9000 x := h.mono hn
theorem sm_small {x : Int} (h : x.natAbs < 8) : Sm 9000 x := sm9000 (n := 3) h (by decide)
def spStart (K : PySem.W.Frag) : Sp := fun vs H Q _ => ∃ (p : Addr) (ns : List Int), vs = [.ref p] ∧ SqL K H p (ns.map V.int) ∧ ns.length ≤ 63 ∧ ∀ (a l : Addr) (H' : Hp), StreamAt H' a l 0 → H a = none → H l = none → Same H H' → Q (.ref a) H'
section
variable {P : Program} {w : World} {K : PySem.W.Frag} {mg : Str → Option Value} {base : Heap} {C : Addr}
theorem scStart : FnScope ["_law_script"] ["_law_script"] (defScope sStart) := ⟨rfl, rfl, rfl, by decide +kernel, rfl, by decide +kernel, by decide +kernel⟩
theorem ok_start {f : Addr} {fd : FuncData} (F : Fun K "_law_start" "_law_start" sStart f fd) (T : Txt K mg C) : FnOk P w K mg base CX0 1 f fd ["_law_script"] (spStart K) := by
  refine F.ok scStart (fun vs H Q E h => ?_) (fun cdv A outer s H vs Q E hr h => ?_)
  · obtain ⟨p, ns, rfl, _⟩ := h
    rfl
  · obtain ⟨p, ns, rfl, hS, hl, k⟩ := h
    refine ⟨_, pss_one (ps_ret (pe_lst (pa_cons (pe_callTy call_list_of (by rfl) T.list_ boot_list' (pa_cons (pv 0) pa_nil)) (pa_cons pe_int (pa_cons pe_int (pa_cons pe_int pa_nil)))))), ?_⟩
    refine ⟨_, rfl, p, _, rfl, .inl hS, fun l hl' => ⟨by show 4 ≤ sizeLine; decide, fun a ha => ?_⟩⟩
    have nal : a ≠ l := fun e => by rw [e, upd_same] at ha; cases ha
    have ha0 : H a = Option.none := by rw [upd_ne nal] at ha; exact ha
    exact k a l _ ⟨nal, ns, 0, 0, upd_same, by rw [upd_ne nal.symm, upd_same], hl, by decide, by decide, by decide⟩ ha0 hl' ((new_ hl').trans (new_ ha))
end
theorem StreamAt.ne {H : Hp} {a l p : Addr} {n : Nat} (S : StreamAt H a l n) (h : H p = none) : p ≠ a ∧ p ≠ l := by
  obtain ⟨ne, ns, x, z, h1, h2, _⟩ := S
  exact ⟨(ne_of_none h1 h).symm, (ne_of_none h2 h).symm⟩
theorem sm48 {z : Int} (h1 : 1 ≤ z) (h2 : z ≤ 48) : Sm 9000 z := by
  refine sm9000 (n := 6) ?_ (by decide)
  have e : (2 : Nat) ^ 6 = 64 := by decide
  show z.natAbs < 2 ^ 6
  rw [e]
  omega
theorem StreamAt.at_ {H : Hp} {a l : Addr} {n m : Nat} (S : StreamAt H a l n) (e : n = m) : StreamAt H a l m := e ▸ S
theorem StreamAt.lst {H : Hp} {a l p : Addr} {n : Nat} {xs ys : List V} (S : StreamAt H a l n) (hp : H p = some (.lst xs)) (pa : p ≠ a) (pl : p ≠ l) : StreamAt (upd H p (.lst ys)) a l n := by
  obtain ⟨ne, ns, x, z, h1, h2, h3⟩ := S
  exact ⟨ne, ns, x, z, by rw [upd_ne pa.symm]; exact h1, by rw [upd_ne pl.symm]; exact h2, h3⟩

def spPick : Sp := fun vs H Q _ => ∃ (a l L : Addr) (n : Nat) (xs : List V), vs = [.ref a, .ref L] ∧ StreamAt H a l n ∧ n ≤ 20000 ∧ H L = some (.lst xs) ∧ L ≠ a ∧ L ≠ l ∧ 1 ≤ xs.length ∧ xs.length ≤ 48 ∧
  ∀ (i : Nat) (x : V) (H' : Hp), xs[i]? = some x → StreamAt H' a l (n + 1) → Keep a l H H' → Q x H'
section
variable {P : Program} {w : World} {K : PySem.W.Frag} {mg : Str → Option Value} {base : Heap} {C : Addr}
theorem scPick : FnScope ["_law_stream", "_law_some"] ["_law_stream", "_law_some"] (defScope sPick) := ⟨rfl, rfl, rfl, by decide +kernel, rfl, by decide +kernel, by decide +kernel⟩
theorem ok_pick {f g : Addr} {fd gd : FuncData} (F : Fun K "_law_pick" "_law_pick" sPick f fd) (T : Txt K mg C) (D : Df K mg "_law_draw" sDraw g gd ["_law_stream", "_law_many"]) : FnOk P w K mg base CX0 2 f fd ["_law_stream", "_law_some"] spPick := by
  have G : FnOk P w K mg base CX0 1 g gd ["_law_stream", "_law_many"] spDraw := ok_draw D.F T
  refine F.ok scPick (fun vs H Q E h => ?_) (fun cdv A outer s H vs Q E hr h => ?_)
  · obtain ⟨a, l, L, n, _, rfl, _⟩ := h
    rfl
  · obtain ⟨a, l, L, n, xs, rfl, S0, hn, hL, La, Ll, h1, h48, kk⟩ := h
    refine ⟨_, pss_one (ps_ret (pe_ix ix_list (pv 1) (pe_call G hr rfl D.M D.F.kp D.B .nil pass0 (pa_cons (pv 0) (pa_cons (pe_callB call_len_seq (by rfl) T.len_ PySem.boot_len (pa_cons (pv 1) pa_nil)) pa_nil))) (fun _ _ => rfl))), ?_⟩
    refine ⟨_, rfl, _, rfl, _, rfl, L, xs, rfl, .inl (SqL.of hL), a, l, n, _, rfl, S0, by omega, by omega, sm48 (by omega) (by omega), fun r H1 r0 r1 S1 kp1 => ?_⟩
    have hi : r.toNat < xs.length := by omega
    have hx : xs[r.toNat]? = some xs[r.toNat] := List.getElem?_eq_getElem hi
    have ha := atI_nat hx
    rw [Int.toNat_of_nonneg r0] at ha
    exact ⟨L, xs, r, _, rfl, rfl, SqL.of (kp1 _ _ La Ll hL), ha, kk _ _ H1 hx S1 kp1⟩
end
end PA

set_option maxHeartbeats 4000000
namespace PA
open PySem L2 RZ
open C8 (pss_cut tCut)
theorem Same.new {H : Hp} {p : Addr} {o : HO} (hp : H p = none) : Same H (upd H p o) := new_ hp
/-! ### data -/
abbrev Rw := Int × Bool × Int × Bool
def rv (r : Rw) : List V := [.int r.1, .bl r.2.1, .int r.2.2.1, .bl r.2.2.2]
def RwOk (n : Nat) (r : Rw) : Prop := (0 ≤ r.1 ∧ r.1 < n) ∧ 0 ≤ r.2.2.1 ∧ r.2.2.1 < n
/-- what stands at each place of a list of references -/
def Each (H : Hp) (P : Hp → Addr → Rw → Prop) (xs : List V) (rows : List Rw) : Prop := xs.length = rows.length ∧ ∀ (i : Nat) (x : V) (r : Rw), xs[i]? = some x → rows[i]? = some r → ∃ c, x = .ref c ∧ P H c r
def isT (H : Hp) (c : Addr) (r : Rw) : Prop := H c = some (.tup (rv r))
def isLT (H : Hp) (c : Addr) (r : Rw) : Prop := H c = some (.tup (rv r)) ∨ H c = some (.lst (rv r))
theorem Each.imp {H H' : Hp} {P P' : Hp → Addr → Rw → Prop} {xs : List V} {rows : List Rw} (e : Each H P xs rows) (f : ∀ c r, P H c r → P' H' c r) : Each H' P' xs rows := ⟨e.1, fun i x r h1 h2 => let ⟨c, hx, q⟩ := e.2 i x r h1 h2; ⟨c, hx, f c r q⟩⟩
theorem Each.sameT {H H' : Hp} {xs : List V} {rows : List Rw} (e : Each H isT xs rows) (s : Same H H') : Each H' isT xs rows := e.imp fun c r q => s _ _ q
theorem Each.sameLT {H H' : Hp} {xs : List V} {rows : List Rw} (e : Each H isLT xs rows) (s : Same H H') : Each H' isLT xs rows := e.imp fun c r q => q.elim (fun q => .inl (s _ _ q)) fun q => .inr (s _ _ q)
theorem Each.nil {H : Hp} {P : Hp → Addr → Rw → Prop} : Each H P [] [] := ⟨rfl, fun i x r h _ => by simp at h⟩
theorem Each.push {H : Hp} {P : Hp → Addr → Rw → Prop} {xs : List V} {rows : List Rw} {c : Addr} {r : Rw} (e : Each H P xs rows) (q : P H c r) : Each H P (xs ++ [.ref c]) (rows ++ [r]) := by
  refine ⟨by rw [List.length_append, List.length_append, e.1]; rfl, fun i x r' h1 h2 => ?_⟩
  rcases Nat.lt_or_ge i xs.length with hi | hi
  · rw [List.getElem?_append_left hi] at h1
    rw [List.getElem?_append_left (by rw [← e.1]; exact hi)] at h2
    exact e.2 i x r' h1 h2
  · rw [List.getElem?_append_right hi] at h1
    rw [List.getElem?_append_right (by rw [← e.1]; exact hi), ← e.1] at h2
    cases hk : i - xs.length with
    | zero =>
      rw [hk] at h1 h2
      have h1' : V.ref c = x := by simpa using h1
      have h2' : r = r' := by simpa using h2
      exact ⟨c, h1'.symm, h2' ▸ q⟩
    | succ k =>
      rw [hk] at h1
      simp at h1
/-- a list is changed: tuples stay -/
theorem isT.lst {H : Hp} {c D : Addr} {r : Rw} {xs ys : List V} (q : isT H c r) (hD : H D = some (.lst xs)) : isT (upd H D (.lst ys)) c r := by
  unfold isT
  rw [upd_ne (ne_of (H := H) q hD (by intro z; cases z))]
  exact q
/-- what is good for a Rule -/
structure Good (rows : List Rw) (starts : List Int) (k : Int) : Prop where
  one : 1 ≤ rows.length
  most : rows.length ≤ 48
  ok : ∀ r ∈ rows, RwOk rows.length r
  root : Root (starts.length : Int) k
  st : ∀ s ∈ starts, 0 ≤ s ∧ s < (rows.length : Int)
theorem isT.kp {H H' : Hp} {a l c : Addr} {n : Nat} {r : Rw} (q : isT H c r) (S : StreamAt H a l n) (k : Keep a l H H') : isT H' c r := by
  obtain ⟨ne, ns, x, z, h1, h2, _⟩ := S
  exact k _ _ (ne_of (H := H) q h1 (by intro z; cases z)) (ne_of (H := H) q h2 (by intro z; cases z)) q
def spTable : Sp := fun vs H Q _ => ∃ (a l : Addr) (n : Nat) (most marks : Int), vs = [.ref a, .int most, .int marks] ∧ StreamAt H a l n ∧ n ≤ 1000 ∧ 1 ≤ most ∧ most ≤ 48 ∧ 1 ≤ marks ∧ marks ≤ 4 ∧
  ∀ (t R S : Addr) (refs : List V) (rows : List Rw) (starts : List Int) (k : Int) (n' : Nat) (H' : Hp), H' t = some (.tup [.ref R, .ref S, .int k]) → H' R = some (.lst refs) → Each H' isT refs rows → H' S = some (.lst (starts.map V.int)) → Good rows starts k →
    StreamAt H' a l n' → n' ≤ n + 300 → Keep a l H H' → R ≠ a → R ≠ l → S ≠ a → S ≠ l → H R = none → H S = none → Q (.ref t) H'
section
variable {P : Program} {w : World} {K : PySem.W.Frag} {mg : Str → Option Value} {base : Heap} {C : Addr}
theorem scTable : FnScope ["_law_stream", "_law_most", "_law_marks", "_law_size", "_law_many", "_law_rows", "_law_k", "_law_low", "_law_high"] ["_law_stream", "_law_most", "_law_marks"] (defScope sTable) := ⟨rfl, rfl, rfl, by decide +kernel, rfl, by decide +kernel, by decide +kernel⟩
theorem ok_table {f g : Addr} {fd gd : FuncData} (F : Fun K "_law_m_table" "_law_m_table" sTable f fd) (T : Txt K mg C) (D : Df K mg "_law_draw" sDraw g gd ["_law_stream", "_law_many"]) : FnOk P w K mg base CX0 2 f fd ["_law_stream", "_law_most", "_law_marks"] spTable := by
  have G : FnOk P w K mg base CX0 1 g gd ["_law_stream", "_law_many"] spDraw := ok_draw D.F T
  refine F.ok scTable (fun vs H Q E h => ?_) (fun cdv A outer s H vs Q E hr h => ?_)
  · obtain ⟨a, l, n, _, _, rfl, _⟩ := h
    rfl
  · obtain ⟨a, l, n, most, marks, rfl, S0, hn, m1, m48, k1, k4, kk⟩ := h
    refine ⟨_, pss_cut (ps_asg (pe_tup (pa_cons (pe_op op_add pe_int (pe_call G hr rfl D.M D.F.kp D.B .nil pass0 (pa_cons (pv 0) (pa_cons (pv 1) pa_nil)))) (pa_cons (pe_op op_add pe_int (pe_call G hr rfl D.M D.F.kp D.B .nil pass0 (pa_cons (pv 0) (pa_cons (pv 2) pa_nil)))) pa_nil)))
        (pg_tup rfl (pgs_cons (pg_name (i := 3) scTable.nd rfl (Or.inr rfl)) (pgs_cons (pg_name (i := 4) scTable.nd rfl (Or.inl rfl)) pgs_nil))))
      (pss_cons (ps_set (i := 5) scTable.nd rfl (Or.inl rfl) (pe_lst pa_nil))
      (pss_cut (ps_for PassesOwn.never rfl (pi_range1 (by rfl) T.range_ (pa_cons (pv 3) pa_nil)) (pg_name (i := 6) scTable.nd rfl (Or.inl rfl))
        (pss_cons (ps_par (i := 7) (j := 8) (by rfl) scTable.nd rfl rfl (by decide) rfl rfl (pa_cons (pe_call G hr rfl D.M D.F.kp D.B .nil pass0 (pa_cons (pv 0) (pa_cons (pv 3) pa_nil))) (pa_cons (pe_call G hr rfl D.M D.F.kp D.B .nil pass0 (pa_cons (pv 0) (pa_cons (pv 3) pa_nil))) pa_nil)) (by rfl))
        (pss_one (ps_expr (pe_bm PySem.F.plainAttrs_list PySem.F.slot_list_append PySem.F.type_list_append mt_append (pv 5) (pa_cons (pe_tup (pa_cons (pv 7) (pa_cons (pe_cmpR op_eq (pe_call G hr rfl D.M D.F.kp D.B .nil pass0 (pa_cons (pv 0) (pa_cons pe_int pa_nil))) pe_int (nomark _)) (pa_cons (pv 8) (pa_cons (pe_cmpR op_eq (pe_call G hr rfl D.M D.F.kp D.B .nil pass0 (pa_cons (pv 0) (pa_cons pe_int pa_nil))) pe_int (nomark _)) pa_nil))))) pa_nil))))))
      (pss_one (ps_ret (pe_tup (pa_cons (pv 5) (pa_cons (pe_lc (own := [("_law_k", 6)]) (g := gName 6) (tt := tYes) (by rfl) scTable.nd (pi_range1 (by rfl) T.range_ (pa_cons (pe_op op_mul (pv 4) (pv 4)) pa_nil)) (blkOk_by (N := ["_law_stream", "_law_most", "_law_marks", "_law_size", "_law_many", "_law_rows", "_law_k", "_law_low", "_law_high"]) (sc := defScope sTable) (by decide +kernel))
          (fun _ _ _ _ _ => pg_name (i := 6) scTable.nd rfl (Or.inl rfl)) (fun _ _ _ _ _ => pts_nil)
          (fun _ _ _ _ _ => pe_call G hr rfl D.M D.F.kp D.B .nil pass0 (pa_cons (pv 0) (pa_cons (pv 3) pa_nil)))) (pa_cons (pv 4) pa_nil)))))))), ?_⟩
    have e24 := @sm48
    refine ⟨fun σ' H' => ∃ (sz mn : Nat), 1 ≤ sz ∧ sz ≤ 48 ∧ 1 ≤ mn ∧ mn ≤ 4 ∧ σ' = [some (V.ref a), some (V.int most), some (V.int marks), some (V.int (sz : Int)), some (V.int (mn : Int)), none, none, none, none] ∧ StreamAt H' a l (n + 2) ∧ Keep a l H H', ?_, ?_⟩
    · refine ⟨_, rfl, _, rfl, a, l, n, most, rfl, S0, by omega, by omega, e24 m1 m48, fun r1 H1 r10 r11 S1 kp1 => ⟨_, _, rfl, rfl, ?_⟩⟩
      refine ⟨_, rfl, _, rfl, a, l, n + 1, marks, rfl, S1, by omega, by omega, e24 k1 (by omega), fun r2 H2 r20 r21 S2 kp2 => ⟨_, _, rfl, rfl, by show 2 ≤ sizeLine; decide, fun tp htp => ?_⟩⟩
      refine ⟨tp, _, rfl, SqT.of upd_same, rfl, _, _, rfl, _, _, rfl, rfl, ?_⟩
      refine ⟨(1 + r1).toNat, (1 + r2).toNat, by omega, by omega, by omega, by omega, ?_, S2.same (Same.new htp), (kp1.trans kp2).trans (Keep.of (Same.new htp))⟩
      rw [Int.toNat_of_nonneg (by omega), Int.toNat_of_nonneg (by omega)]
      rfl
    rintro _ H2 ⟨sz, mn, sz1, sz48, mn1, mn4, rfl, S2, kp2⟩
    refine ⟨Nat.zero_le _, fun R hR0 => ?_⟩
    obtain ⟨Ra, Rl⟩ := S2.ne hR0
    have HR : H R = none := by
      cases e : H R with
      | none => rfl
      | some o => have := kp2 R o Ra Rl e; rw [hR0] at this; cases this
    refine ⟨fun σ' H' => ∃ x6 x7 x8 refs rows, σ' = [some (V.ref a), some (V.int most), some (V.int marks), some (V.int (sz : Int)), some (V.int (mn : Int)), some (V.ref R), x6, x7, x8] ∧ StreamAt H' a l (n + 2 + 4 * sz) ∧ Keep a l H H' ∧ H' R = some (.lst refs) ∧ Each H' isT refs rows ∧ rows.length = sz ∧ (∀ r ∈ rows, RwOk sz r), ?_, ?_⟩
    · refine ⟨_, rfl, (sz : Int), rfl, by omega, by omega, ?_⟩
      refine for_range (n := sz) (fun i σ' H' => ∃ x6 x7 x8 refs rows, σ' = [some (V.ref a), some (V.int most), some (V.int marks), some (V.int (sz : Int)), some (V.int (mn : Int)), some (V.ref R), x6, x7, x8] ∧ StreamAt H' a l (n + 2 + 4 * i) ∧ Keep a l H H' ∧ H' R = some (.lst refs) ∧ Each H' isT refs rows ∧ rows.length = i ∧ (∀ r ∈ rows, RwOk sz r)) ?_ ?_ ?_
      · refine ⟨none, none, none, [], [], rfl, S2.same (Same.new hR0), kp2.trans (Keep.of (Same.new hR0)), upd_same, Each.nil, rfl, fun r hr => by cases hr⟩
      · rintro i _ H3 hi ⟨x6, x7, x8, refs, rows, rfl, S3, kp3, hR, hE, hlen, hok⟩
        refine ⟨_, rfl, _, rfl, a, l, _, _, rfl, S3, by omega, by omega, e24 (by omega) (by omega), fun r1 H4 r10 r11 S4 kp4 => ?_⟩
        refine ⟨_, rfl, _, rfl, a, l, _, _, rfl, S4, by omega, by omega, e24 (by omega) (by omega), fun r2 H5 r20 r21 S5 kp5 => ⟨_, _, rfl, ?_⟩⟩
        have hR5 : H5 R = some (.lst refs) := kp5 _ _ Ra Rl (kp4 _ _ Ra Rl hR)
        refine ⟨_, rfl, .inl ⟨rfl, _, SqL.of hR5⟩, ?_⟩
        refine ⟨_, rfl, ?_⟩
        refine ⟨_, rfl, a, l, _, _, rfl, S5, by omega, by decide, e24 (by decide) (by decide), fun r3 H6 r30 r31 S6 kp6 => ⟨rfl, ?_⟩⟩
        refine ⟨_, rfl, ?_⟩
        refine ⟨_, rfl, a, l, _, _, rfl, S6, by omega, by decide, e24 (by decide) (by decide), fun r4 H7 r40 r41 S7 kp7 => ⟨rfl, by show 4 ≤ sizeLine; decide, fun tp htp => ?_⟩⟩
        have hR7 : H7 R = some (.lst refs) := kp7 _ _ Ra Rl (kp6 _ _ Ra Rl hR5)
        have kp37 : Keep a l H3 H7 := ((kp4.trans kp5).trans kp6).trans kp7
        have hE7 : Each H7 isT refs rows := hE.imp fun c r q => q.kp S3 kp37
        have hR8 := Same.new (o := .tup [.int r1, .bl (decide (V.int r3 = V.int 0)), .int r2, .bl (decide (V.int r4 = V.int 0))]) htp _ _ hR7
        have hE8 : Each _ isT refs rows := hE7.sameT (Same.new (o := .tup [.int r1, .bl (decide (V.int r3 = V.int 0)), .int r2, .bl (decide (V.int r4 = V.int 0))]) htp)
        refine ⟨R, refs, _, rfl, rfl, hR8, ?_, ?_⟩
        · rw [hE.1, hlen]
          exact Nat.lt_of_lt_of_le hi (Nat.le_trans sz48 (by decide))
        refine ⟨_, _, _, _, rows ++ [(r1, decide (V.int r3 = V.int 0), r2, decide (V.int r4 = V.int 0))], rfl, ?_, ?_, upd_same, ?_, ?_, ?_⟩
        · refine StreamAt.at_ (n := n + 2 + 4 * i + 4) ?_ (by omega)
          exact (S7.same (Same.new htp)).lst hR8 Ra Rl
        · intro c o ca cl e
          rw [upd_ne (ne_of_none e HR)]
          exact Same.new htp _ _ ((kp3.trans kp37) c o ca cl e)
        · exact (hE8.imp fun c r q => q.lst hR8).push ((show isT _ tp (r1, decide (V.int r3 = V.int 0), r2, decide (V.int r4 = V.int 0)) from upd_same).lst hR8)
        · rw [List.length_append, hlen]
          rfl
        · intro r hr
          rcases List.mem_append.mp hr with hr | hr
          · exact hok r hr
          · cases List.mem_singleton.mp hr
            exact ⟨⟨r10, r11⟩, r20, r21⟩
      · rintro σ' H' ⟨x6, x7, x8, refs, rows, rfl, S3, kp3, hR, hE, hlen, hok⟩
        exact ⟨x6, x7, x8, refs, rows, rfl, S3, kp3, hR, hE, hlen, hok⟩
    rintro _ H3 ⟨x6, x7, x8, refs, rows, rfl, S3, kp3, hR, hE, hlen, hok⟩
    have hm : ((mn : Int) * (mn : Int)).toNat = mn * mn := by
      rw [← Int.natCast_mul, Int.toNat_natCast]
    have hmm : mn * mn ≤ 16 := Nat.mul_le_mul mn4 mn4
    have hmi : (mn : Int) * (mn : Int) = ((mn * mn : Nat) : Int) := (Int.natCast_mul mn mn).symm
    refine ⟨_, rfl, ?_⟩
    refine ⟨_, rfl, _, rfl, _, _, rfl, rfl, .inl ⟨by omega, by omega⟩, _, rfl, by omega, by omega, fun Dd hD => ?_⟩
    obtain ⟨Da, Dl⟩ := S3.ne hD
    refine lc_range (n := ((mn : Int) * (mn : Int)).toNat) (fun i H' => StreamAt H' a l (n + 2 + 4 * sz + i) ∧ Keep a l H3 H' ∧ ∃ zs : List Int, H' Dd = some (.lst (zs.map V.int)) ∧ zs.length = i ∧ ∀ z ∈ zs, 0 ≤ z ∧ z < (sz : Int)) ?_ ?_ ?_
    · exact ⟨S3.same (Same.new hD), Keep.of (Same.new hD), [], upd_same, rfl, fun z hz => by cases hz⟩
    · rintro i H4 hi ⟨S4, kp4, zs, hd, hl, hz⟩
      rw [hm] at hi
      refine ⟨rfl, ?_⟩
      dsimp only [tYes]
      rw [if_pos rfl]
      refine ⟨_, rfl, _, rfl, a, l, _, _, rfl, S4, by omega, by omega, e24 (by omega) (by omega), fun r H5 r0 r1 S5 kp5 => ?_⟩
      have hd5 := kp5 _ _ Da Dl hd
      refine ⟨_, hd5, ?_, ?_, ?_, zs ++ [r], ?_, ?_, ?_⟩
      · rw [List.length_map, hl]
        exact Nat.lt_of_lt_of_le (Nat.lt_of_lt_of_le hi hmm) (by decide)
      · exact S5.lst hd5 Da Dl
      · intro c o ca cl e
        rw [upd_ne (ne_of_none e hD)]
        exact kp5 _ _ ca cl (kp4 _ _ ca cl e)
      · rw [upd_same, List.map_append]
        rfl
      · rw [List.length_append, hl]
        rfl
      · intro z hz'
        rcases List.mem_append.mp hz' with hz' | hz'
        · exact hz z hz'
        · cases List.mem_singleton.mp hz'
          exact ⟨r0, r1⟩
    · rintro H4 ⟨S4, kp4, zs, hd, hl, hz⟩
      rw [hm] at hl S4
      refine ⟨_, rfl, by show 3 ≤ sizeLine; decide, fun tp htp => ?_⟩
      have hR4 := kp4 _ _ Ra Rl hR
      have hD0 : H Dd = none := by
        cases e : H Dd with
        | none => rfl
        | some o => have := kp3 Dd o Da Dl e; rw [hD] at this; cases this
      refine kk tp R Dd refs rows zs mn _ _ upd_same (Same.new htp _ _ hR4) ?_ (Same.new htp _ _ hd) ⟨by omega, by omega, ?_, ?_, ?_⟩ (S4.same (Same.new htp)) (by omega) ((kp3.trans kp4).trans (Keep.of (Same.new htp))) Ra Rl Da Dl HR hD0
      · exact (hE.imp fun c r q => q.kp S3 kp4).sameT (Same.new htp)
      · intro r hr
        rw [hlen]
        exact hok r hr
      · rw [hl]
        rcases (by omega : mn = 1 ∨ mn = 2 ∨ mn = 3 ∨ mn = 4) with rfl | rfl | rfl | rfl
        · exact .r1
        · exact .r2
        · exact .r3
        · exact .r4
      · intro z hz'
        rw [hlen]
        exact hz z hz'
end
end PA

set_option maxHeartbeats 4000000
namespace PA
open PySem L2 RZ
open C8 (pss_cut tCut)
abbrev isC : Hp → Addr → List V → Prop := TupOf id
def spCheck (X : Addr) : Sp := fun vs H Q E => ∃ (R S : Addr) (refs : List V) (rows : List (List V)) (starts : List V), vs = [.ref R, .ref S] ∧ H R = some (.tup refs) ∧ Ea H isC refs rows ∧ H S = some (.tup starts) ∧
  rows.length ≤ 60 ∧ starts.length ≤ 60 ∧ (∀ r ∈ rows, ∀ x ∈ r, Cell H x) ∧ (∀ x ∈ starts, Cell H x) ∧
  (tabOk rows starts = true → ∀ H', Same H H' → Q .non H') ∧ (tabOk rows starts = false → ∀ H', Same H H' → E (.ref X) none H')
section
variable {P : Program} {w : World} {K : PySem.W.Frag} {mg : Str → Option Value} {base : Heap} {C X PE_ : Addr}
theorem scCheck : FnScope ["rows", "starts", "row", "state"] ["rows", "starts"] (defScope sCheck) := ⟨rfl, rfl, rfl, by decide +kernel, rfl, by decide +kernel, by decide +kernel⟩
theorem ok_check {f g1 g2 g3 : Addr} {fd gd1 gd2 gd3 : FuncData} (F : Fun K "_check_table" "_check_table" sCheck f fd) (T : Txt K mg C) (TX : TxtX K mg X PE_) (D1 : Df K mg "is_integer" sIsInt g1 gd1 ["value"]) (D2 : Df K mg "is_below" sBelow g2 gd2 ["value", "count"]) (D3 : Df K mg "_is_row" sIsRow g3 gd3 ["row", "count"]) : FnOk P w K mg base (L2.CX P w) 4 f fd ["rows", "starts"] (spCheck X) := by
  have G2 : FnOk P w K mg base CX0 3 g2 gd2 ["value", "count"] spBelow := (ok_below D2.F T D1).mono (by decide)
  have G3 : FnOk P w K mg base CX0 3 g3 gd3 ["row", "count"] spIsRow := ok_isRow D3.F T D1 D2
  obtain ⟨tm, hmost⟩ := T.most
  obtain ⟨dm, hdm, km⟩ := T.marks
  refine F.okX scCheck (fun vs H Q E h => ?_) (fun cdv A outer s H vs Q E hr h => ?_)
  · obtain ⟨R, S, _, _, _, rfl, _⟩ := h
    rfl
  · obtain ⟨R, S, refs, rows, starts, rfl, hR, hE, hS, h60, s60, hcr, hcs, kg, kb⟩ := h
    refine ⟨_, pss_cons (ps_if (pt_not (pt_chain op_le op_le pe_int (pe_callB call_len_seq (by rfl) T.len_ PySem.boot_len (pa_cons (pv 0) pa_nil)) (pe_glob (v := .int 48) rfl hmost ⟨_, rfl⟩)))
        (pss_one (ps_raise rfl (takes_of rfl rfl rfl rfl) (pmk_own PySem.F.excBase_ValueError TX.x TX.g TX.k (raises_own TX.b TX.t) (by rfl)))) pss_nil)
      (pss_cons (ps_if (pt_not (pt_val (pe_callB (cr_all rfl) (by rfl) T.all_ boot_all' (pa_cons (pe_lc (own := [("row", 2)]) (g := gName 2) (tt := tYes) (by rfl) scCheck.nd (pi_tup (pv 0)) (blkOk_by (N := ["rows", "starts", "row", "state"]) (sc := defScope sCheck) (by decide +kernel))
          (fun _ _ _ _ _ => pg_name (i := 2) scCheck.nd rfl (Or.inl rfl)) (fun _ _ _ _ _ => pts_nil)
          (fun _ _ _ _ _ => pe_call G3 hr rfl D3.M D3.F.kp D3.B .nil pass0 (pa_cons (pv 2) (pa_cons (pe_callB (call_lenK (K := K) rfl) (by rfl) T.len_ PySem.boot_len (pa_cons (pv 0) pa_nil)) pa_nil)))) pa_nil))))
        (pss_one (ps_raise rfl (takes_of rfl rfl rfl rfl) (pmk_own PySem.F.excBase_ValueError TX.x TX.g TX.k (raises_own TX.b TX.t) (by rfl)))) pss_nil)
      (pss_cons (ps_if (pt_cmpR (op_notIn_kx km) (pe_callB call_len_seq (by rfl) T.len_ PySem.boot_len (pa_cons (pv 1) pa_nil)) (pe_glob (v := .ref dm) rfl hdm rfl) rfl)
        (pss_one (ps_raise rfl (takes_of rfl rfl rfl rfl) (pmk_own PySem.F.excBase_ValueError TX.x TX.g TX.k (raises_own TX.b TX.t) (by rfl)))) pss_nil)
      (pss_one (ps_if (pt_not (pt_val (pe_callB (cr_all rfl) (by rfl) T.all_ boot_all' (pa_cons (pe_lc (own := [("state", 3)]) (g := gName 3) (tt := tYes) (by rfl) scCheck.nd (pi_tup (pv 1)) (blkOk_by (N := ["rows", "starts", "row", "state"]) (sc := defScope sCheck) (by decide +kernel))
          (fun _ _ _ _ _ => pg_name (i := 3) scCheck.nd rfl (Or.inl rfl)) (fun _ _ _ _ _ => pts_nil)
          (fun _ _ _ _ _ => pe_call G2 hr rfl D2.M D2.F.kp D2.B .nil pass0 (pa_cons (pv 3) (pa_cons (pe_callB (call_lenK (K := K) rfl) (by rfl) T.len_ PySem.boot_len (pa_cons (pv 0) pa_nil)) pa_nil)))) pa_nil))))
        (pss_one (ps_raise rfl (takes_of rfl rfl rfl rfl) (pmk_own PySem.F.excBase_ValueError TX.x TX.g TX.k (raises_own TX.b TX.t) (by rfl)))) pss_nil)))), ?_⟩
    have hlr : refs.length = rows.length := hE.1
    refine ⟨_, rfl, ?_⟩
    refine ⟨R, _, rfl, .inr (SqT.of hR), _, _, rfl, rfl, _, rfl, ?_⟩
    rw [hlr]
    by_cases h1 : 1 ≤ rows.length
    rotate_left
    · refine ifD_no (by omega) ?_
      have e1 : tabOk rows starts = false := by
        unfold tabOk
        rw [decide_eq_false h1]
        simp
      exact ⟨false, rfl, iteT (kb e1 H fun _ _ e => e)⟩
    refine ifD_yes (by omega) ⟨_, _, rfl, rfl, _, rfl, ?_⟩
    by_cases h48 : rows.length ≤ 48
    rotate_left
    · have e1 : tabOk rows starts = false := by
        unfold tabOk
        rw [decide_eq_false h48]
        simp
      rw [decide_eq_false (by omega)]
      exact iteT (kb e1 H fun _ _ e => e)
    rw [decide_eq_true (by omega)]
    refine iteF ?_
    refine ⟨_, rfl, R, rfl, ⟨_, SqT.of hR⟩, fun Dd hD => ?_⟩
    refine lc_same (xs := refs) (walk_t (K := K) (a := R) (xs := refs)) (by rw [hlr]; exact Nat.le_trans h60 (by decide)) hD (fun H' s' => SqT.of (s' _ _ hR)) ((rows.map (rowOk rows.length)).map V.bl) (by simp [hlr]) (fun i x y H' Φ Ψ hx hy sm k => ?_) fun H1 s1 hd1 => ?_
    · rw [List.getElem?_map, Option.map_eq_some_iff] at hy
      obtain ⟨y, hy, rfl⟩ := hy
      rw [List.getElem?_map, Option.map_eq_some_iff] at hy
      obtain ⟨r, hq, rfl⟩ := hy
      obtain ⟨c, rfl, hc⟩ := hE.2 i x _ hx hq
      refine ⟨rfl, ?_⟩
      dsimp only [tYes]
      rw [if_pos rfl]
      refine ⟨_, rfl, _, rfl, R, _, rfl, .inr (SqT.of (sm _ _ hR)), c, r, rows.length, congrArg (fun z : Nat => [V.ref c, V.int (z : Int)]) hlr, sm _ _ hc, fun z hz => (hcr r (List.mem_of_getElem? hq) z hz).kin (Kin.same sm), k H' fun _ _ e => e⟩
    refine ⟨Dd, _, rfl, SqL.of hd1, ?_⟩
    cases hrow : (rows.map (rowOk rows.length)).all id with
    | false =>
      have e1 : tabOk rows starts = false := by
        have : rows.all (rowOk rows.length) = false := by
          rw [← hrow, List.all_map]
          rfl
        unfold tabOk
        rw [this]
        simp
      exact ⟨false, rfl, iteT (kb e1 H1 s1)⟩
    | true =>
    have hrow' : rows.all (rowOk rows.length) = true := by
      rw [← hrow, List.all_map]
      rfl
    refine ⟨true, rfl, iteF ?_⟩
    have hS1 := s1 _ _ hS
    refine ⟨_, rfl, S, _, rfl, .inr (SqT.of hS1), (starts.length : Int), rfl, rfl, _, rfl, ?_⟩
    cases hrt : isRt (starts.length : Int) with
    | false =>
      have e1 : tabOk rows starts = false := by
        unfold tabOk
        rw [hrt]
        simp
      exact iteT (kb e1 H1 s1)
    | true =>
    refine iteF ?_
    refine ⟨_, rfl, S, rfl, ⟨_, SqT.of hS1⟩, fun De hE' => ?_⟩
    refine lc_same (xs := starts) (walk_t (K := K) (a := S) (xs := starts)) (Nat.le_trans s60 (by decide)) hE' (fun H' s' => SqT.of (s' _ _ hS1)) ((starts.map (below rows.length)).map V.bl) (by simp) (fun i x y H' Φ Ψ hx hy sm k => ?_) fun H2 s2 hd2 => ?_
    · rw [List.getElem?_map, Option.map_eq_some_iff] at hy
      obtain ⟨y, hy, rfl⟩ := hy
      rw [List.getElem?_map, Option.map_eq_some_iff] at hy
      obtain ⟨r, hq, rfl⟩ := hy
      rw [hx] at hq
      cases hq
      refine ⟨rfl, ?_⟩
      dsimp only [tYes]
      rw [if_pos rfl]
      exact ⟨_, rfl, _, rfl, R, _, rfl, .inr (SqT.of (sm _ _ (s1 _ _ hR))), x, rows.length, congrArg (fun z : Nat => [x, V.int (z : Int)]) hlr, (hcs x (List.mem_of_getElem? hx)).kin (Kin.same (s1.trans sm)), k H' fun _ _ e => e⟩
    refine ⟨De, _, rfl, SqL.of hd2, ?_⟩
    cases hst : (starts.map (below rows.length)).all id with
    | false =>
      have e1 : tabOk rows starts = false := by
        have : starts.all (below rows.length) = false := by
          rw [← hst, List.all_map]
          rfl
        unfold tabOk
        rw [this]
        simp
      exact ⟨false, rfl, iteT (kb e1 H2 (s1.trans s2))⟩
    | true =>
    have hst' : starts.all (below rows.length) = true := by
      rw [← hst, List.all_map]
      rfl
    refine ⟨true, rfl, iteF (kg ?_ H2 (s1.trans s2))⟩
    unfold tabOk
    rw [decide_eq_true h1, decide_eq_true h48, hrow', hrt, hst']
    rfl
end
end PA

set_option maxHeartbeats 4000000
namespace PA
open PySem L2 RZ
open C8 (pss_cut tCut)
/-- a tuple or a list at c of the cells -/
def TLc (H : Hp) (c : Addr) (r : List V) : Prop := H c = some (.tup r) ∨ H c = some (.lst r)
theorem rf2_rows (R S : Addr) : (putF "starts" (.ref S) (putF "rows" (.ref R) [])).lookup ("rows" : Str) = some (V.ref R) := by
  rw [lookup_putF, if_neg rs_, lookup_putF, if_pos rfl]
theorem rf2_starts (R S : Addr) : (putF "starts" (.ref S) (putF "rows" (.ref R) [])).lookup ("starts" : Str) = some (V.ref S) := by
  rw [lookup_putF, if_pos rfl]
def spInit (C X : Addr) : Sp := fun vs H Q E => ∃ (p dx G S : Addr) (refs : List V) (rows : List (List V)) (starts : List V), vs = [.ref p, .ref G, .ref S] ∧ H p = some (.ins C dx []) ∧
  (H G = some (.lst refs) ∨ H G = some (.tup refs)) ∧ Ea H TLc refs rows ∧ (H S = some (.lst starts) ∨ H S = some (.tup starts)) ∧
  rows.length ≤ 60 ∧ starts.length ≤ 60 ∧ (∀ r ∈ rows, ∀ x ∈ r, Cell H x) ∧ (∀ x ∈ starts, Cell H x) ∧
  (tabOk rows starts = true → ∀ k H', Root (starts.length : Int) k → RuleAt C H' p rows.length k → (∀ c o, H c = some o → c ≠ p → H' c = some o) → Q .non H') ∧
  (tabOk rows starts = false → ∀ H', (∀ c o, H c = some o → c ≠ p → H' c = some o) → E (.ref X) none H')
abbrev FunI (K : PySem.W.Frag) (f : Addr) (fd : FuncData) (dd : Addr) : Prop := FunD K "__init__" "Rule.__init__" (defArgs sInit) (defBody sInit) (defScope sInit) [V.ref dd] [] f fd
section
variable {P : Program} {w : World} {K : PySem.W.Frag} {mg : Str → Option Value} {base : Heap} {C X PE_ : Addr}
theorem scInit : FnScope ["self", "rows", "starts", "row"] ["self", "rows", "starts"] (defScope sInit) := ⟨rfl, rfl, rfl, by decide +kernel, rfl, by decide +kernel, by decide +kernel⟩
theorem tab_root {rows : List (List V)} {starts : List V} (h : tabOk rows starts = true) : ∃ k, Root (starts.length : Int) k := by
  unfold tabOk at h
  simp only [Bool.and_eq_true] at h
  exact isRt_root h.1.2
theorem ok_init {f g1 g2 g3 g4 dd : Addr} {fd gd1 gd2 gd3 gd4 : FuncData} (F : FunI K f fd dd) (T : Txt K mg C) (TX : TxtX K mg X PE_) (D1 : Df K mg "is_integer" sIsInt g1 gd1 ["value"]) (D2 : Df K mg "is_below" sBelow g2 gd2 ["value", "count"]) (D3 : Df K mg "_is_row" sIsRow g3 gd3 ["row", "count"]) (D4 : Df K mg "_check_table" sCheck g4 gd4 ["rows", "starts"]) : FnOk P w K mg base (L2.CX P w) 5 f fd ["self", "rows", "starts"] (spInit C X) := by
  have G4 : FnOk P w K mg base (L2.CX P w) 4 g4 gd4 ["rows", "starts"] (spCheck X) := ok_check D4.F T TX D1 D2 D3
  obtain ⟨dm, hdm, km⟩ := T.marks
  refine F.ok scInit (fun vs H Q E h => ?_) (fun cdv A outer s H vs Q E hr h => ?_)
  · obtain ⟨p, dx, G, S, _, _, _, rfl, _⟩ := h
    rfl
  · obtain ⟨p, dx, G, S, refs, rows, starts, rfl, hp, hG, hE, hS, h60, s60, hcr, hcs, kg, kb⟩ := h
    refine ⟨_, pss_cut (ps_fld (pv 0) (pe_callTy call_tuple_of (by rfl) T.tup_ boot_tuple' (pa_cons (pe_lc (own := [("row", 3)]) (g := gName 3) (tt := tYes) (by rfl) scInit.nd (pi_sq (pv 1)) (blkOk_by (N := ["self", "rows", "starts", "row"]) (sc := defScope sInit) (by decide +kernel))
          (fun _ _ _ _ _ => pg_name (i := 3) scInit.nd rfl (Or.inl rfl)) (fun _ _ _ _ _ => pts_nil)
          (fun _ _ _ _ _ => pe_callTy (call_tupleK (K := K) rfl) (by rfl) T.tup_ boot_tuple' (pa_cons (pv 3) pa_nil))) pa_nil)) rfl)
      (pss_cut (ps_fld (pv 0) (pe_callTy call_tuple_of (by rfl) T.tup_ boot_tuple' (pa_cons (pv 2) pa_nil)) rfl)
      (pss_cons (ps_expr (pe_call (E := E) G4 hr rfl D4.M D4.F.kp D4.B .nil (passes_call (takes_of rfl rfl rfl rfl) (fun _ _ _ _ z => z)) (pa_cons (pe_fld (pv 0) rfl) (pa_cons (pe_fld (pv 0) rfl) pa_nil))))
      (pss_one (ps_fld (pv 0) (pe_ix (ix_km km) (pe_glob (v := .ref dm) rfl hdm rfl) (pe_callB call_len_seq (by rfl) T.len_ PySem.boot_len (pa_cons (pe_fld (pv 0) rfl) pa_nil)) (fun _ _ => rfl)) rfl)))), ?_⟩
    have hlr : refs.length = rows.length := hE.1
    have hsz : refs.length ≤ sizeLine := by rw [hlr]; exact Nat.le_trans h60 (by decide)
    refine ⟨fun σ' H' => σ' = [some (.ref p), some (.ref G), some (.ref S), none] ∧ ∃ R refs', H' p = some (.ins C dx (putF "rows" (.ref R) [])) ∧ H' R = some (.tup refs') ∧ Ea H' isC refs' rows ∧ (∀ c o, H c = some o → c ≠ p → H' c = some o), ?_, ?_⟩
    · obtain ⟨k, hk⟩ : ∃ k, Sk K k H G refs := by
        rcases hG with hG | hG
        · exact ⟨.l, SqL.of hG⟩
        · exact ⟨.t, SqT.of hG⟩
      refine ⟨k, _, rfl, G, rfl, ⟨_, hk⟩, fun Dd hD => ?_⟩
      refine lc_acc (xs := refs) (walk_k (k := k)) hsz hD (fun H' s' => hk.up s') (fun i acc H' => Ea H' isC acc (rows.take i)) (fun i acc H' e => by rw [e.1, List.length_take]; omega) (by rw [List.take_zero]; exact Ea.nil) (fun i x H' acc Φ Ψ hi hx sm hd he kf => ?_) fun H1 acc s1 hd he => ?_
      · obtain ⟨c, r, rfl, hl, hc⟩ := hE.at_ hx
        refine ⟨rfl, ?_⟩
        dsimp only [tYes]
        rw [if_pos rfl]
        rcases hc with hc | hc
        · refine ⟨_, rfl, c, _, rfl, .inr ⟨SqT.of (sm _ _ hc), kf _ H' (fun _ _ e => e) hd fun H5 h5 b1 b2 => ?_⟩⟩
          rw [take_succ' hl]
          exact Ea.push (he.imp fun c' r' q => TupOf.but q hd b1) (TupOf.but (f := id) (sm _ _ hc) hd b1)
        · refine ⟨_, rfl, c, _, rfl, .inl ⟨SqL.of (sm _ _ hc), fun q hq => ?_⟩⟩
          have sq := new_ (o := .tup r) hq
          refine kf _ _ sq (sq _ _ hd) fun H5 h5 b1 b2 => ?_
          rw [take_succ' hl]
          exact Ea.push (he.imp fun c' r' z => TupOf.but (f := id) (sq _ _ z) (sq _ _ hd) b1) (TupOf.but (f := id) upd_same (sq _ _ hd) b1)
      · rw [hlr, List.take_length] at he
        refine ⟨Dd, _, rfl, .inl ⟨SqL.of hd, fun l hl => ?_⟩⟩
        have sl := new_ (o := .tup acc) hl
        have hp1 := sl _ _ (s1 _ _ hp)
        refine ⟨_, rfl, p, C, dx, _, rfl, hp1, T.cl, T.nR, (by show 0 < 1000; decide), rfl, l, acc, upd_same, ?_, ?_, fun c o e hc => by rw [upd_ne hc]; exact sl _ _ (s1 _ _ e)⟩
        · rw [upd_ne (ne_of hp1 upd_same (by intro z; cases z)).symm]
          exact upd_same
        · exact (he.same sl).imp fun c r q => TupOf.ins (f := id) q hp1
    rintro _ H1 ⟨rfl, R, refs', hp1, hR1, hE1, kp1⟩
    have hS1 : H1 S = some (.lst starts) ∨ H1 S = some (.tup starts) := by
      rcases hS with h | h
      · exact .inl (kp1 _ _ h (ne_of h hp (by intro z; cases z)))
      · exact .inr (kp1 _ _ h (ne_of h hp (by intro z; cases z)))
    refine ⟨fun σ' H' => σ' = [some (.ref p), some (.ref G), some (.ref S), none] ∧ ∃ S', H' p = some (.ins C dx (putF "starts" (.ref S') (putF "rows" (.ref R) []))) ∧ H' R = some (.tup refs') ∧ Ea H' isC refs' rows ∧ H' S' = some (.tup starts) ∧ (∀ c o, H c = some o → c ≠ p → H' c = some o), ?_, ?_⟩
    · rcases hS1 with hS1 | hS1
      · refine ⟨_, rfl, S, _, rfl, .inl ⟨SqL.of hS1, fun l hl => ?_⟩⟩
        have sl := new_ (o := .tup starts) hl
        have hp2 := sl _ _ hp1
        refine ⟨_, rfl, p, C, dx, _, rfl, hp2, T.cl, T.nS, (by show 1 < 1000; decide), rfl, l, upd_same, ?_, ?_, ?_, ?_⟩
        · rw [upd_ne (ne_of (sl _ _ hR1) hp2 (by intro z; cases z))]
          exact sl _ _ hR1
        · exact (hE1.same sl).imp fun c' r' q => TupOf.ins (f := id) q hp2
        · rw [upd_ne (ne_of hp2 upd_same (by intro z; cases z)).symm]
          exact upd_same
        · intro c o e hc
          rw [upd_ne hc]
          exact sl _ _ (kp1 _ _ e hc)
      · refine ⟨_, rfl, S, _, rfl, .inr ⟨SqT.of hS1, ?_⟩⟩
        refine ⟨_, rfl, p, C, dx, _, rfl, hp1, T.cl, T.nS, (by show 1 < 1000; decide), rfl, S, upd_same, ?_, ?_, ?_, ?_⟩
        · rw [upd_ne (ne_of hR1 hp1 (by intro z; cases z))]
          exact hR1
        · exact hE1.imp fun c' r' q => TupOf.ins (f := id) q hp1
        · rw [upd_ne (ne_of hS1 hp1 (by intro z; cases z))]
          exact hS1
        · intro c o e hc
          rw [upd_ne hc]
          exact kp1 _ _ e hc
    rintro _ H2 ⟨rfl, S', hp2, hR2, hE2, hS2, kp2⟩
    have kin : Kin H H2 := Kin.ins hp kp2
    refine ⟨_, rfl, p, C, dx, _, _, rfl, hp2, T.cl, T.nR, rf2_rows R S', _, rfl, p, C, dx, _, _, rfl, hp2, T.cl, T.nS, rf2_starts R S', R, S', refs', rows, starts, rfl, hR2, hE2, hS2, h60, s60, fun r hr x hx => (hcr r hr x hx).kin kin, fun x hx => (hcs x hx).kin kin, fun ok H3 s3 => ?_, fun bad H3 s3 => kb bad H3 fun c o e hc => s3 _ _ (kp2 c o e hc)⟩
    obtain ⟨k, hk⟩ := tab_root ok
    refine ⟨_, rfl, p, C, dx, _, _, rfl, s3 _ _ hp2, T.cl, T.nS, rf2_starts R S', S', _, rfl, .inr (SqT.of (s3 _ _ hS2)), (starts.length : Int), k, rfl, rfl, hk, ?_⟩
    refine ⟨_, rfl, p, C, dx, _, rfl, s3 _ _ hp2, T.cl, T.nM, (by show 2 < 1000; decide), ?_⟩
    refine kg ok k _ hk ⟨dx, R, S', refs', upd_same, ?_, hE2.1⟩ ?_
    · rw [upd_ne (ne_of (s3 _ _ hR2) (s3 _ _ hp2) (by intro z; cases z))]
      exact s3 _ _ hR2
    · intro c o e hc
      rw [upd_ne hc]
      exact s3 _ _ (kp2 _ _ e hc)
end
end PA

set_option maxHeartbeats 4000000
namespace PA
open PySem L2 RZ
open C8 (pss_cut tCut)
/-- a tuple of the cells, or a list that is none of N -/
def TLx (N : List Addr) (H : Hp) (c : Addr) (r : List V) : Prop := H c = some (.tup r) ∨ (c ∉ N ∧ H c = some (.lst r))
section
variable {N : List Addr} {H H' : Hp} {c a l D : Addr} {r : List V} {n m : Nat}
theorem TLx.same (q : TLx N H c r) (s : Same H H') : TLx N H' c r := q.imp (fun q => s _ _ q) fun q => ⟨q.1, s _ _ q.2⟩
theorem TLx.keep (q : TLx N H c r) (S : StreamAt H a l n) (ha : a ∈ N) (hl : l ∈ N) (k : Keep a l H H') : TLx N H' c r := by
  obtain ⟨ne, ns, x, z, h1, h2, _⟩ := S
  rcases q with q | ⟨nn, q⟩
  · exact .inl (k _ _ (ne_of (H := H) q h1 (by intro z; cases z)) (ne_of (H := H) q h2 (by intro z; cases z)) q)
  · exact .inr ⟨nn, k _ _ (fun e => nn (e ▸ ha)) (fun e => nn (e ▸ hl)) q⟩
theorem TLx.lst {xs ys : List V} (q : TLx N H c r) (hD : D ∈ N) (hd : H D = some (.lst xs)) : TLx N (upd H D (.lst ys)) c r := by
  rcases q with q | ⟨nn, q⟩
  · exact .inl (by rw [upd_ne (ne_of (H := H) q hd (by intro z; cases z))]; exact q)
  · exact .inr ⟨nn, by rw [upd_ne (show c ≠ D from fun e => nn (by rw [e]; exact hD))]; exact q⟩
theorem TLx.tl (q : TLx N H c r) : TLc H c r := q.imp id fun q => q.2
theorem TLx.sub {N' : List Addr} (q : TLx N H c r) (h : ∀ x, x ∈ N' → x ∈ N) : TLx N' H c r := q.imp id fun q => ⟨fun z => q.1 (h _ z), q.2⟩
theorem Keep.kin (S : StreamAt H a l n) (S' : StreamAt H' a l m) (k : Keep a l H H') : Kin H H' := fun d => by
  obtain ⟨ne, ns, x, z, h1, h2, _⟩ := S
  obtain ⟨ne', ns', x', z', h1', h2', _⟩ := S'
  refine ⟨fun xs e => k _ _ (ne_of (H := H) e h1 (by intro z; cases z)) (ne_of (H := H) e h2 (by intro z; cases z)) e, fun xs e => ?_⟩
  by_cases e1 : d = a
  · subst e1; exact ⟨_, h1'⟩
  by_cases e2 : d = l
  · subst e2; exact ⟨_, h2'⟩
  exact ⟨xs, k _ _ e1 e2 e⟩
end
def spHanded : Sp := fun vs H Q _ => ∃ (a l R : Addr) (n : Nat) (refs : List V) (rows : List (List V)), vs = [.ref a, .ref R] ∧ StreamAt H a l n ∧ n ≤ 5000 ∧ H R = some (.lst refs) ∧ R ≠ a ∧ R ≠ l ∧ Ea H (TLx [a, l]) refs rows ∧ rows.length ≤ 60 ∧
  ∀ (G : Addr) (refs' : List V) (n' : Nat) (H' : Hp), (H' G = some (.lst refs') ∨ H' G = some (.tup refs')) → Ea H' (TLx [a, l]) refs' rows → StreamAt H' a l n' → n' ≤ n + 70 → Keep a l H H' → Q (.ref G) H'
section
variable {P : Program} {w : World} {K : PySem.W.Frag} {mg : Str → Option Value} {base : Heap} {C : Addr}
theorem scHanded : FnScope ["_law_stream", "_law_rows", "_law_some", "_law_row"] ["_law_stream", "_law_rows"] (defScope sHanded) := ⟨rfl, rfl, rfl, by decide +kernel, rfl, by decide +kernel, by decide +kernel⟩
theorem ok_handed {f g : Addr} {fd gd : FuncData} (F : Fun K "_law_m_handed" "_law_m_handed" sHanded f fd) (T : Txt K mg C) (D : Df K mg "_law_draw" sDraw g gd ["_law_stream", "_law_many"]) : FnOk P w K mg base CX0 2 f fd ["_law_stream", "_law_rows"] spHanded := by
  have G : FnOk P w K mg base CX0 1 g gd ["_law_stream", "_law_many"] spDraw := ok_draw D.F T
  refine F.ok scHanded (fun vs H Q E h => ?_) (fun cdv A outer s H vs Q E hr h => ?_)
  · obtain ⟨a, l, R, _, _, _, rfl, _⟩ := h
    rfl
  · obtain ⟨a, l, R, n, refs, rows, rfl, S0, hn, hR, Ra, Rl, hE, h60, kk⟩ := h
    have e24 := @sm48
    have hlr : refs.length = rows.length := hE.1
    refine ⟨_, pss_cons (ps_setLc (i := 2) (own := [("_law_row", 3)]) (g := gName 3) (tt := tYes) (by rfl) scHanded.nd rfl rfl (sw_true rfl rfl rfl (by decide +kernel)) (pi_list (pv 1)) (blkOk_by (N := ["_law_stream", "_law_rows", "_law_some", "_law_row"]) (sc := defScope sHanded) (by decide +kernel))
          (fun _ _ _ _ _ => pg_name (i := 3) scHanded.nd rfl (Or.inl rfl)) (fun _ _ _ _ _ => pts_nil)
          (fun _ _ _ _ _ => pe_ifExp (pt_cmpR op_eq (pe_call G hr rfl D.M D.F.kp D.B .nil pass0 (pa_cons (pv 0) (pa_cons pe_int pa_nil))) pe_int (nomark _)) (pe_callTy (call_listK (K := K) rfl) (by rfl) T.list_ boot_list' (pa_cons (pv 3) pa_nil)) (pe_callTy (call_tupleK (K := K) rfl) (by rfl) T.tup_ boot_tuple' (pa_cons (pv 3) pa_nil))))
      (pss_one (ps_ret (pe_ifExp (pt_cmpR op_eq (pe_call G hr rfl D.M D.F.kp D.B .nil pass0 (pa_cons (pv 0) (pa_cons pe_int pa_nil))) pe_int (nomark _)) (pv 2) (pe_callTy call_tuple_of (by rfl) T.tup_ boot_tuple' (pa_cons (pv 2) pa_nil))))), ?_⟩
    refine ⟨_, rfl, R, rfl, ⟨_, SqL.of hR⟩, fun Dd hD => ?_⟩
    obtain ⟨Da, Dl⟩ := S0.ne hD
    refine lc_list (K := K) (a := R) (xs := refs) (fun i H' => StreamAt H' a l (n + i) ∧ Keep a l H H' ∧ ∃ acc, H' Dd = some (.lst acc) ∧ Ea H' (TLx [a, l, Dd]) acc (rows.take i)) ?_ ?_ ?_ ?_
    · exact ⟨S0.same (new_ hD), Keep.of (new_ hD), [], upd_same, by rw [List.take_zero]; exact Ea.nil⟩
    · exact fun i H' _ q => SqL.of (q.2.1 _ _ Ra Rl hR)
    · rintro i x H1 hx ⟨S1, kp1, acc, hd, he⟩
      obtain ⟨c, r, rfl, hr', hc⟩ := hE.at_ hx
      have hi : i < rows.length := (List.getElem?_eq_some_iff.mp hr').1
      have hal : acc.length < sizeLine := by
        rw [he.1, List.length_take]
        exact Nat.lt_of_le_of_lt (Nat.le_trans (Nat.min_le_left _ _) (Nat.le_of_lt hi)) (Nat.lt_of_le_of_lt h60 (by decide))
      refine ⟨rfl, ?_⟩
      dsimp only [tYes]
      rw [if_pos rfl]
      refine ⟨_, rfl, a, l, _, _, rfl, S1, by omega, by decide, e24 (by decide) (by decide), fun d H2 d0 d1 S2 kp2 => ⟨rfl, _, rfl, ?_⟩⟩
      have hd2 := kp2 _ _ Da Dl hd
      have hc2 : TLx [a, l] H2 c r := (hc.keep S0 (by simp) (by simp) kp1).keep S1 (by simp) (by simp) kp2
      have he2 : Ea H2 (TLx [a, l, Dd]) acc (rows.take i) := he.imp fun c' r' q => q.keep S1 (by simp) (by simp) kp2
      have fin : ∀ q H3, Same H2 H3 → TLx [a, l, Dd] H3 q r → ∃ acc', H3 Dd = some (.lst acc') ∧ acc'.length < sizeLine ∧
          (StreamAt (upd H3 Dd (.lst (acc' ++ [.ref q]))) a l (n + (i + 1)) ∧ Keep a l H (upd H3 Dd (.lst (acc' ++ [.ref q]))) ∧ ∃ acc2, (upd H3 Dd (.lst (acc' ++ [.ref q]))) Dd = some (.lst acc2) ∧ Ea (upd H3 Dd (.lst (acc' ++ [.ref q]))) (TLx [a, l, Dd]) acc2 (rows.take (i + 1))) := by
        intro q H3 s3 hq
        have hd3 := s3 _ _ hd2
        refine ⟨acc, hd3, hal, (S2.same s3).lst hd3 Da Dl, ?_, acc ++ [.ref q], upd_same, ?_⟩
        · intro c' o ca cl e
          rw [upd_ne (ne_of_none e hD)]
          exact s3 _ _ (kp2 _ _ ca cl (kp1 _ _ ca cl e))
        · rw [take_succ' hr']
          exact Ea.push (he2.imp fun c' r' z => (z.same s3).lst (by simp) hd3) (hq.lst (by simp) hd3)
      have new3 : ∀ p, H2 p = none → p ∉ [a, l, Dd] := by
        intro p hp
        obtain ⟨pa, pl⟩ := S2.ne hp
        have pD : p ≠ Dd := (ne_of_none hd2 hp).symm
        simp [pa, pl, pD]
      refine ifD_2 (fun _ => ?_) (fun _ => ?_)
      · rcases hc2 with hc2 | ⟨nc, hc2⟩
        · exact ⟨_, rfl, c, _, rfl, .inr (SqT.of hc2), fun p hp => fin p _ (new_ hp) (.inr ⟨new3 p hp, upd_same⟩)⟩
        · exact ⟨_, rfl, c, _, rfl, .inl (SqL.of hc2), fun p hp => fin p _ (new_ hp) (.inr ⟨new3 p hp, upd_same⟩)⟩
      · rcases hc2 with hc2 | ⟨nc, hc2⟩
        · exact ⟨_, rfl, c, _, rfl, .inr ⟨SqT.of hc2, fin c _ (fun _ _ e => e) (.inl hc2)⟩⟩
        · exact ⟨_, rfl, c, _, rfl, .inl ⟨SqL.of hc2, fun p hp => fin p _ (new_ hp) (.inl upd_same)⟩⟩
    · rintro H1 ⟨S1, kp1, acc, hd, he⟩
      rw [hlr] at S1
      rw [hlr, List.take_length] at he
      refine ⟨_, rfl, a, l, _, _, rfl, S1, by omega, by decide, e24 (by decide) (by decide), fun r H2 r0 r1 S2 kp2 => ⟨rfl, _, rfl, ?_⟩⟩
      have hd2 := kp2 _ _ Da Dl hd
      have he2 : Ea H2 (TLx [a, l]) acc rows := he.imp fun c' r' q => (q.keep S1 (by simp) (by simp) kp2).sub (by intro x hx; simp only [List.mem_cons, List.not_mem_nil, or_false] at hx ⊢; rcases hx with h | h <;> simp [h])
      refine ifD_2 (fun _ => ?_) (fun _ => ?_)
      · exact ⟨_, rfl, kk Dd acc _ H2 (.inl hd2) he2 S2 (by omega) (kp1.trans kp2)⟩
      · refine ⟨_, rfl, Dd, _, rfl, .inl ⟨SqL.of hd2, fun p hp => ?_⟩⟩
        exact kk p acc _ _ (.inr upd_same) (he2.imp fun c' r' q => q.same (new_ hp)) (S2.same (new_ hp)) (by omega) ((kp1.trans kp2).trans (Keep.of (new_ hp)))
end
end PA

set_option maxHeartbeats 4000000
namespace PA
open PySem L2 RZ
/-! ### tables with a fault -/
theorem bad_row {rs : List (List V)} {ss : List V} {i : Nat} {r : List V} (h : rs[i]? = some r) (b : rowOk rs.length r = false) : tabOk rs ss = false := by
  have e : rs.all (rowOk rs.length) = false := by
    cases q : rs.all (rowOk rs.length) with
    | false => rfl
    | true =>
      have := List.all_eq_true.mp q r (List.mem_of_getElem? h)
      rw [b] at this
      cases this
  unfold tabOk
  rw [e]
  simp
theorem bad_start {rs : List (List V)} {ss : List V} {x : V} (h : x ∈ ss) (b : below rs.length x = false) : tabOk rs ss = false := by
  have e : ss.all (below rs.length) = false := by
    cases q : ss.all (below rs.length) with
    | false => rfl
    | true =>
      have := List.all_eq_true.mp q x h
      rw [b] at this
      cases this
  unfold tabOk
  rw [e]
  simp
theorem bad_len {rs : List (List V)} {ss : List V} (b : isRt (ss.length : Int) = false) : tabOk rs ss = false := by
  unfold tabOk
  rw [b]
  simp
theorem bad_none {ss : List V} : tabOk [] ss = false := by
  unfold tabOk
  rw [decide_eq_false (p := 1 ≤ ([] : List (List V)).length) (by decide)]
  simp
theorem bad_many {rs : List (List V)} {ss : List V} (h : 48 < rs.length) : tabOk rs ss = false := by
  unfold tabOk
  rw [decide_eq_false (p := rs.length ≤ 48) (by omega)]
  simp
theorem row_four {n : Nat} {r : List V} (h : rowOk n r = true) : ∃ a f b g, r = [a, f, b, g] := by
  unfold rowOk at h
  split at h
  · exact ⟨_, _, _, _, rfl⟩
  · cases h
theorem row_len {n : Nat} {r : List V} (h : r.length ≠ 4) : rowOk n r = false := by
  cases q : rowOk n r with
  | false => rfl
  | true =>
    obtain ⟨a, f, b, g, rfl⟩ := row_four q
    exact absurd rfl h
/-- a list that was not there in H0, and is none of N -/
def NL (H0 : Hp) (N : List Addr) (H : Hp) (c : Addr) (r : List V) : Prop := H0 c = none ∧ c ∉ N ∧ H c = some (.lst r)
section
variable {H0 : Hp} {N : List Addr} {H H' : Hp} {refs : List V} {rs : List (List V)} {c D a l : Addr} {r : List V}
theorem NL.but (q : NL H0 N H c r) (hD : D ∈ N) {o : HO} : NL H0 N (upd H D o) c r := ⟨q.1, q.2.1, by rw [upd_ne (show c ≠ D from fun e => q.2.1 (by rw [e]; exact hD))]; exact q.2.2⟩
theorem NL.same (q : NL H0 N H c r) (s : Same H H') : NL H0 N H' c r := ⟨q.1, q.2.1, s _ _ q.2.2⟩
theorem NL.add (q : NL H0 N H c r) (h : H D = none) : NL H0 (D :: N) H c r := ⟨q.1, by
  intro z
  rcases List.mem_cons.mp z with z | z
  · exact ne_of_none q.2.2 h z
  · exact q.2.1 z, q.2.2⟩
theorem NL.keep {n : Nat} (q : NL H0 N H c r) (S0 : StreamAt H0 a l n) (k : Keep a l H H') : NL H0 N H' c r := by
  obtain ⟨x, y⟩ := S0.ne q.1
  exact ⟨q.1, q.2.1, k _ _ x y q.2.2⟩
open Classical in
theorem Ea.write (e : Ea H (NL H0 N) refs rs) {i : Nat} {r' : List V} (hc : refs[i]? = some (.ref c)) (hn : H0 c = none) (hN : c ∉ N) :
    ∃ rs', Ea (upd H c (.lst r')) (NL H0 N) refs rs' ∧ rs'.length = rs.length ∧ rs'[i]? = some r' ∧ ∀ r ∈ rs', r = r' ∨ r ∈ rs := by
  have hl := e.1
  have hz : (refs.zip rs).length = rs.length := by rw [List.length_zip, hl]; exact Nat.min_self _
  refine ⟨(refs.zip rs).map fun q => if q.1 = .ref c then r' else q.2, ⟨by rw [List.length_map, hz, hl], fun j x r h1 h2 => ?_⟩, by rw [List.length_map, hz], ?_, ?_⟩
  · rw [List.getElem?_map, Option.map_eq_some_iff] at h2
    obtain ⟨⟨y, s⟩, hq, rfl⟩ := h2
    obtain ⟨q1, q2⟩ := List.getElem?_zip_eq_some.mp hq
    rw [h1] at q1
    cases q1
    obtain ⟨d, rfl, hd⟩ := e.2 j _ s h1 q2
    refine ⟨d, rfl, ?_⟩
    by_cases hdc : d = c
    · subst hdc
      exact ⟨hn, hN, by rw [upd_same, if_pos rfl]⟩
    · refine ⟨hd.1, hd.2.1, ?_⟩
      rw [upd_ne hdc, if_neg (by intro z; injection z with z; exact hdc z)]
      exact hd.2.2
  · have hi : i < rs.length := by rw [← hl]; exact (List.getElem?_eq_some_iff.mp hc).1
    have : (refs.zip rs)[i]? = some (.ref c, rs[i]) := List.getElem?_zip_eq_some.mpr ⟨hc, List.getElem?_eq_getElem hi⟩
    rw [List.getElem?_map, this]
    simp
  · intro r hr
    rw [List.mem_map] at hr
    obtain ⟨⟨y, s⟩, hq, rfl⟩ := hr
    by_cases z : y = .ref c
    · left; simp [z]
    · right
      simp only [z, if_false]
      exact (List.of_mem_zip hq).2
end
theorem old_none {a l p : Addr} {n : Nat} {H0 H : Hp} (k : Keep a l H0 H) (S : StreamAt H a l n) (h : H p = none) : H0 p = none := by
  obtain ⟨pa, pl⟩ := S.ne h
  cases e : H0 p with
  | none => rfl
  | some o => have := k _ _ pa pl e; rw [h] at this; cases this
/-- the lists of a table that is being changed -/
structure FB (H0 : Hp) (size : Nat) (B T L : Addr) (refs : List V) (rs : List (List V)) (ss : List V) (H : Hp) : Prop where
  B0 : H0 B = none
  hB : H B = some (.lst refs)
  T0 : H0 T = none
  hT : H T = some (.lst ss)
  L0 : H0 L = none
  hL : ∃ xs, H L = some (.lst xs) ∧ xs.length = 9 ∧ ∀ x ∈ xs, Cell H x ∧ below size x = false
  BT : B ≠ T
  BL : B ≠ L
  TL : T ≠ L
  hE : Ea H (NL H0 [B, T, L]) refs rs
  cr : ∀ r ∈ rs, ∀ x ∈ r, Cell H x
  cs : ∀ x ∈ ss, Cell H x
  l1 : rs.length ≤ 60
  l2 : ss.length ≤ 60
section
variable {H0 H H' : Hp} {size : Nat} {B T L p a l : Addr} {refs refs2 : List V} {rs rs2 : List (List V)} {ss ss2 : List V}
theorem cells_kin {rs : List (List V)} (c : ∀ r ∈ rs, ∀ x ∈ r, Cell H x) (k : Kin H H') : ∀ r ∈ rs, ∀ x ∈ r, Cell H' x := fun r hr x hx => (c r hr x hx).kin k
theorem hL_kin (h : ∃ xs, H L = some (.lst xs) ∧ xs.length = 9 ∧ ∀ x ∈ xs, Cell H x ∧ below size x = false) (k : Kin H H') (e : ∀ o, H L = some o → H' L = some o) : ∃ xs, H' L = some (.lst xs) ∧ xs.length = 9 ∧ ∀ x ∈ xs, Cell H' x ∧ below size x = false := by
  obtain ⟨xs, h1, h2, h3⟩ := h
  exact ⟨xs, e _ h1, h2, fun x hx => ⟨(h3 x hx).1.kin k, (h3 x hx).2⟩⟩
theorem FB.keep {n m m0 : Nat} (f : FB H0 size B T L refs rs ss H) (S0 : StreamAt H0 a l m0) (S : StreamAt H a l n) (S' : StreamAt H' a l m) (k : Keep a l H H') : FB H0 size B T L refs rs ss H' := by
  have kin := k.kin S S'
  obtain ⟨b1, b2⟩ := S0.ne f.B0
  obtain ⟨t1, t2⟩ := S0.ne f.T0
  obtain ⟨l1, l2⟩ := S0.ne f.L0
  exact { f with hB := k _ _ b1 b2 f.hB, hT := k _ _ t1 t2 f.hT, hL := hL_kin f.hL kin fun o e => k _ _ l1 l2 e, hE := f.hE.imp fun c r q => q.keep S0 k, cr := cells_kin f.cr kin, cs := fun x hx => (f.cs x hx).kin kin }
theorem FB.same (f : FB H0 size B T L refs rs ss H) (s : Same H H') : FB H0 size B T L refs rs ss H' :=
  { f with hB := s _ _ f.hB, hT := s _ _ f.hT, hL := hL_kin f.hL (Kin.same s) fun o e => s _ _ e, hE := f.hE.imp fun c r q => q.same s, cr := cells_kin f.cr (Kin.same s), cs := fun x hx => (f.cs x hx).kin (Kin.same s) }
theorem FB.setB (f : FB H0 size B T L refs rs ss H) (s : Same H H') (h0 : H0 p = none) (hp : H p = none) (hp' : H' p = some (.lst refs2)) (hE : Ea H' (NL H0 [p, T, L]) refs2 rs2) (cr : ∀ r ∈ rs2, ∀ x ∈ r, Cell H' x) (l1 : rs2.length ≤ 60) : FB H0 size p T L refs2 rs2 ss H' := by
  have g := f.same s
  obtain ⟨xs, q, _⟩ := f.hL
  exact { g with B0 := h0, hB := hp', BT := (ne_of_none f.hT hp).symm, BL := (ne_of_none q hp).symm, hE := hE, cr := cr, l1 := l1 }
theorem FB.setT (f : FB H0 size B T L refs rs ss H) (h0 : H0 p = none) (hp : H p = none) (cs : ∀ x ∈ ss2, Cell H x) (l2 : ss2.length ≤ 60) : FB H0 size B p L refs rs ss2 (upd H p (.lst ss2)) := by
  have s := new_ (o := .lst ss2) hp
  have g := f.same s
  obtain ⟨xs, q, _⟩ := f.hL
  refine { g with T0 := h0, hT := upd_same, BT := ne_of_none f.hB hp, TL := (ne_of_none q hp).symm, hE := f.hE.imp fun c r z => ⟨z.1, ?_, s _ _ z.2.2⟩, cs := fun x hx => (cs x hx).kin (Kin.same s), l2 := l2 }
  have z1 := z.2.1
  have z2 := ne_of_none z.2.2 hp
  simp only [List.mem_cons, List.not_mem_nil, or_false, not_or] at z1 ⊢
  exact ⟨z1.1, z2, z1.2.2⟩
theorem FB.putT (f : FB H0 size B T L refs rs ss H) (cs : ∀ x ∈ ss2, Cell H x) (l2 : ss2.length ≤ 60) : FB H0 size B T L refs rs ss2 (upd H T (.lst ss2)) := by
  have kin : Kin H (upd H T (.lst ss2)) := Kin.lst f.hT
  refine { f with hB := by rw [upd_ne f.BT]; exact f.hB, hT := upd_same, hL := hL_kin f.hL kin fun o e => by rw [upd_ne f.TL.symm]; exact e, hE := f.hE.imp fun c r q => q.but (by simp), cr := cells_kin f.cr kin, cs := fun x hx => (cs x hx).kin kin, l2 := l2 }
theorem FB.putB (f : FB H0 size B T L refs rs ss H) (hE : Ea H (NL H0 [B, T, L]) refs2 rs2) (cr : ∀ r ∈ rs2, ∀ x ∈ r, Cell H x) (l1 : rs2.length ≤ 60) : FB H0 size B T L refs2 rs2 ss (upd H B (.lst refs2)) := by
  have kin : Kin H (upd H B (.lst refs2)) := Kin.lst f.hB
  refine { f with hB := upd_same, hT := by rw [upd_ne f.BT.symm]; exact f.hT, hL := hL_kin f.hL kin fun o e => by rw [upd_ne f.BL.symm]; exact e, hE := hE.imp fun c r q => q.but (by simp), cr := cells_kin cr kin, cs := fun x hx => (f.cs x hx).kin kin, l1 := l1 }
theorem FB.putR {c : Addr} {i : Nat} {r r' : List V} (f : FB H0 size B T L refs rs ss H) (hc : refs[i]? = some (.ref c)) (hr : rs[i]? = some r) (cr : ∀ x ∈ r', Cell H x) :
    ∃ rs', rs'.length = rs.length ∧ rs'[i]? = some r' ∧ FB H0 size B T L refs rs' ss (upd H c (.lst r')) := by
  obtain ⟨d, e, q⟩ := f.hE.2 i _ _ hc hr
  cases e
  have kin : Kin H (upd H c (.lst r')) := Kin.lst q.2.2
  obtain ⟨rs', e1, e2, e3, e4⟩ := Ea.write f.hE (r' := r') hc q.1 q.2.1
  have nB : c ≠ B := fun z => q.2.1 (by rw [z]; simp)
  have nT : c ≠ T := fun z => q.2.1 (by rw [z]; simp)
  have nL : c ≠ L := fun z => q.2.1 (by rw [z]; simp)
  refine ⟨rs', e2, e3, { f with hB := by rw [upd_ne nB.symm]; exact f.hB, hT := by rw [upd_ne nT.symm]; exact f.hT, hL := hL_kin f.hL kin fun o e => by rw [upd_ne nL.symm]; exact e, hE := e1, cr := fun s hs x hx => ?_, cs := fun x hx => (f.cs x hx).kin kin, l1 := by rw [e2]; exact f.l1 }⟩
  rcases e4 s hs with rfl | hs
  · exact (cr x hx).kin kin
  · exact (f.cr s hs x hx).kin kin
end
/-- where the fault is being put in -/
structure FS (a l : Addr) (H0 : Hp) (n : Nat) (rows : List (List V)) (starts : List V) (kd : Int) (j : Int) (B T L : Addr) (refs : List V) (rs : List (List V)) (ss : List V) (H : Hp) : Prop where
  m : ∃ m, m ≤ n + 6 ∧ StreamAt H a l m ∧ (j ≤ kd → m = n + 3)
  kp : Keep a l H0 H
  f : FB H0 rows.length B T L refs rs ss H
  un : j ≤ kd → rs = rows ∧ ss = starts
  bad : kd < j → tabOk rs ss = false
theorem FS.skip {a l : Addr} {H0 : Hp} {n : Nat} {rows : List (List V)} {starts : List V} {kd j : Int} {B T L : Addr} {refs : List V} {rs : List (List V)} {ss : List V} {H : Hp}
    (f : FS a l H0 n rows starts kd j B T L refs rs ss H) (h : ¬ kd = j) : FS a l H0 n rows starts kd (j + 1) B T L refs rs ss H := by
  obtain ⟨m, h1, h2, h3⟩ := f.m
  exact { f with m := ⟨m, h1, h2, fun z => h3 (by omega)⟩, un := fun z => f.un (by omega), bad := fun z => f.bad (by omega) }
/-- the fault is in -/
theorem FS.done {a l : Addr} {H0 H' : Hp} {n m : Nat} {rows : List (List V)} {starts : List V} {kd j : Int} {B T L : Addr} {refs : List V} {rs : List (List V)} {ss : List V}
    (e : kd = j) (S : StreamAt H' a l m) (hm : m ≤ n + 6) (kp : Keep a l H0 H') (f : FB H0 rows.length B T L refs rs ss H') (bad : tabOk rs ss = false) : FS a l H0 n rows starts kd (j + 1) B T L refs rs ss H' :=
  ⟨⟨m, hm, S, fun z => by omega⟩, kp, f, fun z => by omega, fun _ => bad⟩
end PA

set_option maxHeartbeats 8000000
namespace PA
open PySem L2 RZ
open C8 (pss_cut tCut)
def rIxLK (K : PySem.W.Frag) : R2 := fun x y H Q => ∃ p xs i v, x = .ref p ∧ y = .int i ∧ SqL K H p xs ∧ atI xs i = some v ∧ Q v H
theorem ix_listK {X : Cx} {K : PySem.W.Frag} (h : X.K = K) : IxR X (rIxLK K) := h ▸ ix_list
theorem six {d : Int} (h0 : 0 ≤ d) (h6 : d < 6) : ∃ k : Nat, atI [V.int 0, .int 1, .int 2, .int 3, .int 5, .int 6] d = some (.int (k : Int)) ∧ k ≠ 4 ∧ k ≤ 6 := by
  have : d = 0 ∨ d = 1 ∨ d = 2 ∨ d = 3 ∨ d = 4 ∨ d = 5 := by omega
  rcases this with rfl | rfl | rfl | rfl | rfl | rfl
  · exact ⟨0, rfl, by decide, by decide⟩
  · exact ⟨1, rfl, by decide, by decide⟩
  · exact ⟨2, rfl, by decide, by decide⟩
  · exact ⟨3, rfl, by decide, by decide⟩
  · exact ⟨5, rfl, by decide, by decide⟩
  · exact ⟨6, rfl, by decide, by decide⟩
theorem eleven {d : Int} (h0 : 0 ≤ d) (h6 : d < 11) : ∃ k : Nat, atI [V.int 0, .int 2, .int 3, .int 5, .int 8, .int 10, .int 12, .int 15, .int 17, .int 25, .int 36] d = some (.int (k : Int)) ∧ isRt (k : Int) = false ∧ k ≤ 36 := by
  have : d = 0 ∨ d = 1 ∨ d = 2 ∨ d = 3 ∨ d = 4 ∨ d = 5 ∨ d = 6 ∨ d = 7 ∨ d = 8 ∨ d = 9 ∨ d = 10 := by omega
  rcases this with rfl | rfl | rfl | rfl | rfl | rfl | rfl | rfl | rfl | rfl | rfl
  · exact ⟨0, rfl, by decide, by decide⟩
  · exact ⟨2, rfl, by decide, by decide⟩
  · exact ⟨3, rfl, by decide, by decide⟩
  · exact ⟨5, rfl, by decide, by decide⟩
  · exact ⟨8, rfl, by decide, by decide⟩
  · exact ⟨10, rfl, by decide, by decide⟩
  · exact ⟨12, rfl, by decide, by decide⟩
  · exact ⟨15, rfl, by decide, by decide⟩
  · exact ⟨17, rfl, by decide, by decide⟩
  · exact ⟨25, rfl, by decide, by decide⟩
  · exact ⟨36, rfl, by decide, by decide⟩
def spFault : Sp := fun vs H Q _ => ∃ (a l R S : Addr) (n : Nat) (refs : List V) (rows : List (List V)) (starts : List V), vs = [.ref a, .ref R, .ref S] ∧ StreamAt H a l n ∧ n ≤ 5000 ∧ R ≠ a ∧ R ≠ l ∧ S ≠ a ∧ S ≠ l ∧
  H R = some (.lst refs) ∧ Ea H isC refs rows ∧ H S = some (.lst starts) ∧ (∀ r ∈ rows, rowOk rows.length r = true) ∧ 1 ≤ rows.length ∧ rows.length ≤ 48 ∧ 1 ≤ starts.length ∧ starts.length ≤ 16 ∧ (∀ r ∈ rows, ∀ x ∈ r, Cell H x) ∧ (∀ x ∈ starts, Cell H x) ∧
  ∀ (t B T : Addr) (refs' : List V) (rs : List (List V)) (ss : List V) (n' : Nat) (H' : Hp), H' t = some (.tup [.ref B, .ref T]) → H' B = some (.lst refs') → B ≠ a → B ≠ l → Ea H' (TLx [a, l]) refs' rs → H' T = some (.lst ss) → T ≠ a → T ≠ l → tabOk rs ss = false → rs.length ≤ 60 → ss.length ≤ 60 →
    (∀ r ∈ rs, ∀ x ∈ r, Cell H' x) → (∀ x ∈ ss, Cell H' x) → StreamAt H' a l n' → n' ≤ n + 6 → Keep a l H H' → Q (.ref t) H'
section
variable {P : Program} {w : World} {K : PySem.W.Frag} {mg : Str → Option Value} {base : Heap} {C : Addr}
theorem scFault : FnScope ["_law_stream", "_law_rows", "_law_starts", "_law_size", "_law_at", "_law_kind", "_law_strange", "_law_row", "_law_k"] ["_law_stream", "_law_rows", "_law_starts"] (defScope sFault) := ⟨rfl, rfl, rfl, by decide +kernel, rfl, by decide +kernel, by decide +kernel⟩
theorem ok_fault {f g g2 : Addr} {fd gd gd2 : FuncData} (F : Fun K "_law_fault" "_law_fault" sFault f fd) (T : Txt K mg C) (D : Df K mg "_law_draw" sDraw g gd ["_law_stream", "_law_many"]) (D2 : Df K mg "_law_pick" sPick g2 gd2 ["_law_stream", "_law_some"]) : FnOk P w K mg base CX0 3 f fd ["_law_stream", "_law_rows", "_law_starts"] spFault := by
  have G : FnOk P w K mg base CX0 2 g gd ["_law_stream", "_law_many"] spDraw := (ok_draw D.F T).mono (by decide)
  have G2 : FnOk P w K mg base CX0 2 g2 gd2 ["_law_stream", "_law_some"] spPick := ok_pick D2.F T D
  refine F.ok scFault (fun vs H Q E h => ?_) (fun cdv A outer s H vs Q E hr h => ?_)
  · obtain ⟨a, l, R, S, n, _, _, _, rfl, _⟩ := h
    rfl
  · obtain ⟨a, l, R, S, n, refs, rows, starts, rfl, S0, hn, Ra, Rl, Sa, Sl, hR, hE, hS, hok, h1, h48, s1, s16, hcr, hcs, kk⟩ := h
    have e24 := @sm48
    refine ⟨_, pss_cut (ps_asg (pe_tup (pa_cons (pe_lc (own := [("_law_row", 7)]) (g := gName 7) (tt := tYes) (by rfl) scFault.nd (pi_list (pv 1)) (blkOk_by (N := ["_law_stream", "_law_rows", "_law_starts", "_law_size", "_law_at", "_law_kind", "_law_strange", "_law_row", "_law_k"]) (sc := defScope sFault) (by decide +kernel))
          (fun _ _ _ _ _ => pg_name (i := 7) scFault.nd rfl (Or.inl rfl)) (fun _ _ _ _ _ => pts_nil)
          (fun _ _ _ _ _ => pe_callTy (call_listK (K := K) rfl) (by rfl) T.list_ boot_list' (pa_cons (pv 7) pa_nil)))
        (pa_cons (pe_callTy call_list_of (by rfl) T.list_ boot_list' (pa_cons (pv 2) pa_nil)) (pa_cons (pe_callB call_len_seq (by rfl) T.len_ PySem.boot_len (pa_cons (pv 1) pa_nil)) pa_nil))))
        (pg_tup rfl (pgs_cons (pg_name (i := 1) scFault.nd rfl (Or.inr rfl)) (pgs_cons (pg_name (i := 2) scFault.nd rfl (Or.inl rfl)) (pgs_cons (pg_name (i := 3) scFault.nd rfl (Or.inr rfl)) pgs_nil)))))
      (pss_cut (ps_par (i := 4) (j := 5) (by rfl) scFault.nd rfl rfl (by decide) rfl rfl (pa_cons (pe_call G hr rfl D.M D.F.kp D.B .nil pass0 (pa_cons (pv 0) (pa_cons (pv 3) pa_nil))) (pa_cons (pe_call G hr rfl D.M D.F.kp D.B .nil pass0 (pa_cons (pv 0) (pa_cons pe_int pa_nil))) pa_nil)) (by rfl))
      (pss_cut (ps_set (i := 6) scFault.nd rfl (Or.inl rfl) (pe_lst (pa_cons (pv 3) (pa_cons (pe_un un_neg pe_int) (pa_cons (pe_op op_add (pv 3) (pe_call G hr rfl D.M D.F.kp D.B .nil pass0 (pa_cons (pv 0) (pa_cons (pe_op op_pow pe_int pe_int) pa_nil)))) (pa_cons pe_bl (pa_cons pe_bl (pa_cons pe_non (pa_cons pe_str (pa_cons (pe_tup (pa_cons pe_int pa_nil)) (pa_cons (pe_lst (pa_cons pe_int pa_nil)) pa_nil)))))))))))
      (pss_cut (ps_if (pt_cmpR op_eq (pv 5) pe_int (nomark _)) (pss_one (ps_set (i := 1) scFault.nd rfl (Or.inr rfl) (pe_lst pa_nil))) pss_nil)
      (pss_cut (ps_if (pt_cmpR op_eq (pv 5) pe_int (nomark _)) (pss_one (ps_set (i := 1) scFault.nd rfl (Or.inr rfl) (pe_lc (own := [("_law_k", 8)]) (g := gName 8) (tt := tYes) (by rfl) scFault.nd (pi_range1 (by rfl) T.range_ (pa_cons (pe_op op_add pe_int (pe_call G hr rfl D.M D.F.kp D.B .nil pass0 (pa_cons (pv 0) (pa_cons pe_int pa_nil)))) pa_nil)) (blkOk_by (N := ["_law_stream", "_law_rows", "_law_starts", "_law_size", "_law_at", "_law_kind", "_law_strange", "_law_row", "_law_k"]) (sc := defScope sFault) (by decide +kernel))
          (fun _ _ _ _ _ => pg_name (i := 8) scFault.nd rfl (Or.inl rfl)) (fun _ _ _ _ _ => pts_nil)
          (fun _ _ _ _ _ => pe_ix (ix_listK (K := K) rfl) (pv 1) (pe_op op_mod (pe_callTy call_int1 (by rfl) T.int_ boot_int' (pa_cons (pv 8) pa_nil)) (pv 3)) (fun _ _ => rfl))))) pss_nil)
      (pss_cut (ps_if (pt_cmpR op_eq (pv 5) pe_int (nomark _)) (pss_one (ps_asg (pe_slice sl_list (pe_op op_cat (pe_ix ix_list (pv 1) (pv 4) (fun _ _ => rfl)) (pe_lst (pa_cons pe_bl (pa_cons pe_int pa_nil)))) po_none
            (po_some (pe_ix ix_list (pe_lst (pa_cons pe_int (pa_cons pe_int (pa_cons pe_int (pa_cons pe_int (pa_cons pe_int (pa_cons pe_int pa_nil))))))) (pe_call G hr rfl D.M D.F.kp D.B .nil pass0 (pa_cons (pv 0) (pa_cons pe_int pa_nil))) (fun _ _ => rfl)))) (pg_sub (pv 1) (pv 4) set_list))) pss_nil)
      (pss_cut (ps_if (pt_cmpR op_eq (pv 5) pe_int (nomark _)) (pss_one (ps_asg (pe_call G2 hr rfl D2.M D2.F.kp D2.B .nil pass0 (pa_cons (pv 0) (pa_cons (pv 6) pa_nil))) (pg_sub (pe_ix ix_list (pv 1) (pv 4) (fun _ _ => rfl)) pe_int set_list))) pss_nil)
      (pss_cut (ps_if (pt_cmpR op_eq (pv 5) pe_int (nomark _)) (pss_one (ps_asg (pe_call G2 hr rfl D2.M D2.F.kp D2.B .nil pass0 (pa_cons (pv 0) (pa_cons (pv 6) pa_nil))) (pg_sub (pe_ix ix_list (pv 1) (pv 4) (fun _ _ => rfl)) pe_int set_list))) pss_nil)
      (pss_cut (ps_if (pt_cmpR op_eq (pv 5) pe_int (nomark _)) (pss_one (ps_asg (pe_call G2 hr rfl D2.M D2.F.kp D2.B .nil pass0 (pa_cons (pv 0) (pa_cons (pe_lst (pa_cons pe_int (pa_cons pe_int (pa_cons pe_non (pa_cons pe_str (pa_cons pe_str (pa_cons (pe_tup (pa_cons pe_bl pa_nil)) pa_nil))))))) pa_nil)))
            (pg_sub (pe_ix ix_list (pv 1) (pv 4) (fun _ _ => rfl)) (pe_op op_add pe_int (pe_op op_mul pe_int (pe_call G hr rfl D.M D.F.kp D.B .nil pass0 (pa_cons (pv 0) (pa_cons pe_int pa_nil))))) set_list))) pss_nil)
      (pss_cut (ps_if (pt_cmpR op_eq (pv 5) pe_int (nomark _)) (pss_one (ps_set (i := 2) scFault.nd rfl (Or.inl rfl) (pe_op op_rep (pe_lst (pa_cons pe_int pa_nil)) (pe_ix ix_list (pe_lst (pa_cons pe_int (pa_cons pe_int (pa_cons pe_int (pa_cons pe_int (pa_cons pe_int (pa_cons pe_int (pa_cons pe_int (pa_cons pe_int (pa_cons pe_int (pa_cons pe_int (pa_cons pe_int pa_nil)))))))))))) (pe_call G hr rfl D.M D.F.kp D.B .nil pass0 (pa_cons (pv 0) (pa_cons pe_int pa_nil))) (fun _ _ => rfl))))) pss_nil)
      (pss_cut (ps_if (pt_cmpR op_eq (pv 5) pe_int (nomark _)) (pss_one (ps_asg (pe_call G2 hr rfl D2.M D2.F.kp D2.B .nil pass0 (pa_cons (pv 0) (pa_cons (pv 6) pa_nil))) (pg_sub (pv 2) (pe_call G hr rfl D.M D.F.kp D.B .nil pass0 (pa_cons (pv 0) (pa_cons (pe_callB call_len_seq (by rfl) T.len_ PySem.boot_len (pa_cons (pv 2) pa_nil)) pa_nil))) set_list))) pss_nil)
      (pss_one (ps_ret (pe_tup (pa_cons (pv 1) (pa_cons (pv 2) pa_nil))))))))))))))), ?_⟩
    have hlr : refs.length = rows.length := hE.1
    have hsz : refs.length ≤ sizeLine := by rw [hlr]; exact Nat.le_trans h48 (by decide)
    -- the copies
    refine ⟨fun σ' H' => ∃ B T refs', σ' = [some (.ref a), some (.ref B), some (.ref T), some (.int (refs.length : Int)), none, none, none, none, none] ∧ Same H H' ∧ H B = none ∧ H' B = some (.lst refs') ∧ H T = none ∧ H' T = some (.lst starts) ∧ B ≠ T ∧ Ea H' (NL H [B, T]) refs' rows, ?_, ?_⟩
    · refine ⟨_, rfl, R, rfl, ⟨_, SqL.of hR⟩, fun Dd hD => ?_⟩
      refine lc_acc (xs := refs) (walk_l (K := K) (a := R) (xs := refs)) hsz hD (fun H' s' => SqL.of (s' _ _ hR)) (fun i acc H' => Ea H' (NL H [Dd]) acc (rows.take i)) (fun i acc H' e => by rw [e.1, List.length_take]; omega) (by rw [List.take_zero]; exact Ea.nil) (fun i x H' acc Φ Ψ hi hx sm hd he kf => ?_) fun H1 acc s1 hd he => ?_
      · obtain ⟨c, r, rfl, hl, hc⟩ := hE.at_ hx
        refine ⟨rfl, ?_⟩
        dsimp only [tYes]
        rw [if_pos rfl]
        refine ⟨_, rfl, c, _, rfl, .inr (SqT.of (sm _ _ hc)), fun p hp => ?_⟩
        have sq := new_ (o := .lst r) hp
        have pD := ne_of_none hd hp
        refine kf _ _ sq (sq _ _ hd) fun H5 h5 b1 b2 => ?_
        rw [take_succ' hl]
        refine Ea.push (he.imp fun c' r' z => ⟨z.1, z.2.1, b1 _ _ (fun e => z.2.1 (by rw [e]; simp)) (sq _ _ z.2.2)⟩) ⟨L2.Same.none sm hp, by simp [pD.symm], b1 _ _ pD.symm upd_same⟩
      · rw [hlr, List.take_length] at he
        refine ⟨_, rfl, S, _, rfl, .inl (SqL.of (s1 _ _ hS)), fun p hp => ⟨_, rfl, R, _, rfl, .inl (SqL.of (new_ hp _ _ (s1 _ _ hR))), by show 3 ≤ sizeLine; decide, fun tp htp => ?_⟩⟩
        have sp := new_ (o := .lst starts) hp
        have st := new_ (o := .tup [.ref Dd, .ref p, .int (refs.length : Int)]) htp
        refine ⟨tp, _, rfl, SqT.of upd_same, rfl, _, _, rfl, _, _, rfl, _, _, rfl, rfl, Dd, p, acc, rfl, (s1.trans sp).trans st, hD, st _ _ (sp _ _ hd), L2.Same.none s1 hp, st _ _ upd_same, ne_of_none hd hp, ?_⟩
        exact he.imp fun c r z => ⟨z.1, by
          have := ne_of_none z.2.2 hp
          have z2 := z.2.1
          simp only [List.mem_cons, List.not_mem_nil, or_false, not_or] at z2 ⊢
          exact ⟨z2, this⟩, st _ _ (sp _ _ z.2.2)⟩
    rintro _ H1 ⟨B, T', refs1, rfl, sm1, B0, hB, T0, hT, BT, hE1⟩
    -- the place and the kind
    refine ⟨fun σ' H' => ∃ (i : Nat) (kd : Int), σ' = [some (.ref a), some (.ref B), some (.ref T'), some (.int (refs.length : Int)), some (.int (i : Int)), some (.int kd), none, none, none] ∧ i < rows.length ∧ 0 ≤ kd ∧ kd < 8 ∧ StreamAt H' a l (n + 2) ∧ Keep a l H1 H', ?_, ?_⟩
    · refine ⟨_, rfl, _, rfl, a, l, _, _, rfl, S0.same sm1, by omega, by omega, e24 (by omega) (by omega), fun r1 H2 r10 r11 S2 kp2 => ?_⟩
      refine ⟨_, rfl, a, l, _, _, rfl, S2, by omega, by decide, e24 (by decide) (by decide), fun r2 H3 r20 r21 S3 kp3 => ⟨_, _, rfl, r1.toNat, r2, ?_, by omega, r20, r21, S3, kp2.trans kp3⟩⟩
      rw [Int.toNat_of_nonneg r10]
      rfl
    rintro _ H2 ⟨i, kd, rfl, hi, k0, k8, S2, kp12⟩
    have S1 := S0.same sm1
    have kp02 : Keep a l H H2 := (Keep.of sm1).trans kp12
    -- the strange cells
    refine ⟨fun σ' H' => ∃ L, σ' = [some (.ref a), some (.ref B), some (.ref T'), some (.int (refs.length : Int)), some (.int (i : Int)), some (.int kd), some (.ref L), none, none] ∧ FS a l H n rows starts kd 0 B T' L refs1 rows starts H', ?_, ?_⟩
    · refine ⟨_, rfl, _, rfl, _, rfl, _, rfl, 10, 9, rfl, rfl, (by show CPow 10 9; unfold CPow; decide), a, l, _, _, rfl, S2, by omega, by decide, by decide, fun r H3 r0 r1 S3 kp3 => ⟨_, _, rfl, rfl, by show 1 ≤ sizeLine; decide, fun u hu => ⟨by show 1 ≤ sizeLine; decide, fun v hv => ⟨by show 9 ≤ sizeLine; decide, fun L hL => ?_⟩⟩⟩⟩
      have su := new_ (o := .tup [.int 0]) hu
      have sv := new_ (o := .lst [.int 0]) hv
      have sL := new_ (o := .lst [.int (refs.length : Int), .int (-1), .int ((refs.length : Int) + r), .bl true, .bl false, .non, .str "0", .ref u, .ref v]) hL
      have s3 := (su.trans sv).trans sL
      have k23 := kp3.trans (Keep.of s3)
      have S4 := S3.same s3
      have kp04 := kp02.trans k23
      have kin := kp04.kin S0 S4
      have kpb : Keep a l H1 _ := kp12.trans k23
      obtain ⟨ba, bl⟩ := S0.ne B0
      obtain ⟨ta, tl⟩ := S0.ne T0
      have kp3' : Keep a l H (upd (upd H3 u (.tup [.int 0])) v (.lst [.int 0])) := (kp02.trans kp3).trans (Keep.of (su.trans sv))
      have S3' := S3.same (su.trans sv)
      have L0 : H L = none := old_none kp3' S3' hL
      have hB4 := kpb _ _ ba bl hB
      have hT4 := kpb _ _ ta tl hT
      refine ⟨L, rfl, ⟨n + 3, by omega, S4, fun _ => rfl⟩, kp04, ⟨B0, hB4, T0, hT4, L0, ⟨_, upd_same, rfl, fun x hx => ?_⟩, BT, ?_, ?_, ?_, cells_kin hcr kin, fun x hx => (hcs x hx).kin kin, by omega, by omega⟩, fun _ => ⟨rfl, rfl⟩, fun z => by omega⟩
      · simp only [List.mem_cons, List.not_mem_nil, or_false] at hx
        have bel : ∀ z : Int, ¬ (0 ≤ z ∧ z < (rows.length : Int)) → below rows.length (.int z) = false := by
          intro z hz
          show (decide (0 ≤ z) && decide (z < (rows.length : Int))) = false
          rw [← Bool.decide_and, decide_eq_false hz]
        rcases hx with rfl | rfl | rfl | rfl | rfl | rfl | rfl | rfl | rfl
        · exact ⟨.int _, bel _ (by omega)⟩
        · exact ⟨.int _, bel _ (by omega)⟩
        · exact ⟨.int _, bel _ (by omega)⟩
        · exact ⟨.bl _, rfl⟩
        · exact ⟨.bl _, rfl⟩
        · exact ⟨.non, rfl⟩
        · exact ⟨.str _, rfl⟩
        · exact ⟨.tup (sL _ _ (sv _ _ upd_same)), rfl⟩
        · exact ⟨.lst (sL _ _ upd_same), rfl⟩
      · exact ne_of_none (kp3.trans (Keep.of (su.trans sv)) _ _ ba bl (kp12 _ _ ba bl hB)) hL
      · exact ne_of_none (kp3.trans (Keep.of (su.trans sv)) _ _ ta tl (kp12 _ _ ta tl hT)) hL
      · refine hE1.imp fun c r z => ⟨z.1, ?_, (z.keep S0 kpb).2.2⟩
        have z1 := z.2.1
        obtain ⟨ca, cl⟩ := S0.ne z.1
        have z2 := ne_of_none (kp3.trans (Keep.of (su.trans sv)) _ _ ca cl (kp12 _ _ ca cl z.2.2)) hL
        simp only [List.mem_cons, List.not_mem_nil, or_false, not_or] at z1 ⊢
        exact ⟨z1.1, z1.2, z2⟩
    clear hE1 hT hB T0 B0 BT sm1 kp12 S2 kp02 S1
    rintro _ H3 ⟨L, rfl, fs⟩
    have hB4 : ∀ {j : Int} {B T : Addr} {refs' : List V} {rs : List (List V)} {ss : List V} {H' : Hp}, FS a l H n rows starts kd j B T L refs' rs ss H' → kd = j → StreamAt H' a l (n + 3) ∧ rows = rs ∧ starts = ss ∧ refs'.length = rows.length := by
      intro j B T refs' rs ss H' f e
      obtain ⟨m, h1, h2, h3⟩ := f.m
      obtain ⟨e1, e2⟩ := f.un (by omega)
      exact ⟨h2.at_ (h3 (by omega)), e1.symm, e2.symm, by rw [f.f.hE.1, e1]⟩
    have at4 : ∀ {refs' : List V}, refs'.length = rows.length → ∃ c, refs'[i]? = some c := fun h => ⟨_, List.getElem?_eq_getElem (by omega)⟩
    -- no row
    refine ⟨fun σ' H' => ∃ B T refs' rs ss, σ' = [some (.ref a), some (.ref B), some (.ref T), some (.int (refs.length : Int)), some (.int (i : Int)), some (.int kd), some (.ref L), none, none] ∧ FS a l H n rows starts kd 1 B T L refs' rs ss H', ?_, ?_⟩
    · refine ⟨_, rfl, rfl, _, rfl, ifD_2 (fun e => ?_) (fun e => ?_)⟩
      · have e' : kd = 0 := by injection e
        obtain ⟨S4, _, _, _⟩ := hB4 fs e'
        refine ⟨Nat.zero_le _, fun p hp => ?_⟩
        have sp := new_ (o := .lst []) hp
        exact ⟨p, _, [], [], _, rfl, FS.done e' (S4.same sp) (by omega) (fs.kp.trans (Keep.of sp)) (fs.f.setB sp (old_none fs.kp S4 hp) hp upd_same Ea.nil (fun r hr => by cases hr) (by decide)) bad_none⟩
      · exact ⟨_, _, _, _, _, rfl, fs.skip (fun z => e (by rw [z]))⟩
    clear fs
    rintro _ H4 ⟨B, T', refs2, rs, ss, rfl, fs⟩
    -- too many
    refine ⟨fun σ' H' => ∃ B T refs' rs ss, σ' = [some (.ref a), some (.ref B), some (.ref T), some (.int (refs.length : Int)), some (.int (i : Int)), some (.int kd), some (.ref L), none, none] ∧ FS a l H n rows starts kd 2 B T L refs' rs ss H', ?_, ?_⟩
    · refine ⟨_, rfl, rfl, _, rfl, ifD_2 (fun e => ?_) (fun e => ?_)⟩
      · have e' : kd = 1 := by injection e
        obtain ⟨S4, rfl, rfl, hl2⟩ := hB4 fs e'
        refine ⟨_, rfl, a, l, _, _, rfl, S4, by omega, by decide, e24 (by decide) (by decide), fun r H5 r0 r1 S5 kp5 => ⟨_, _, rfl, rfl, _, rfl, by omega, by omega, fun Dd hD => ?_⟩⟩
        have f5 := fs.f.keep S0 S4 S5 kp5
        have hkey : ∀ k : Nat, ∃ x r', refs2[k % rows.length]? = some x ∧ rows[k % rows.length]? = some r' := fun k => ⟨_, _, List.getElem?_eq_getElem (by rw [hl2]; exact Nat.mod_lt _ (by omega)), List.getElem?_eq_getElem (Nat.mod_lt _ (by omega))⟩
        refine lc_range (n := (49 + r).toNat) (fun j H' => Same H5 H' ∧ ∃ acc rsA, H' Dd = some (.lst acc) ∧ acc.length = j ∧ Ea H' (NL H [Dd, T', L]) acc rsA ∧ ∀ s ∈ rsA, s ∈ rows) ?_ ?_ ?_
        · exact ⟨new_ hD, [], [], upd_same, rfl, Ea.nil, fun s hs => by cases hs⟩
        · rintro j H6 hj ⟨s6, acc, rsA, hd, hl, he, hm⟩
          obtain ⟨x, r', hx, hr'⟩ := hkey j
          refine ⟨rfl, ?_⟩
          dsimp only [tYes]
          rw [if_pos rfl]
          have hx' : atI refs2 (((0 : Int) + (j : Int)) % (refs.length : Int)) = some x := by
            rw [hlr, Int.zero_add, ← Int.natCast_emod]
            exact atI_nat hx
          refine ⟨_, rfl, _, rfl, .inl ⟨_, rfl, _, rfl, _, _, rfl, rfl, by omega, B, refs2, _, _, rfl, rfl, SqL.of (s6 _ _ f5.hB), hx', acc, hd, ?_, ?_⟩⟩
          · rw [hl]
            exact Nat.lt_of_lt_of_le hj (Nat.le_trans (by omega : (49 + r).toNat ≤ 60) (by decide))
          obtain ⟨c, rfl, hc⟩ := f5.hE.2 _ _ _ hx hr'
          have hcD : c ≠ Dd := ne_of_none hc.2.2 hD
          refine ⟨fun c o z => by rw [upd_ne (ne_of_none z hD)]; exact s6 _ _ z, acc ++ [.ref c], rsA ++ [r'], upd_same, by rw [List.length_append, hl]; rfl, Ea.push (he.imp fun c r q => q.but (by simp)) ⟨hc.1, ?_, by rw [upd_ne hcD]; exact s6 _ _ hc.2.2⟩, fun s hs => ?_⟩
          · have := hc.2.1
            simp only [List.mem_cons, List.not_mem_nil, or_false, not_or] at this ⊢
            exact ⟨hcD, this.2⟩
          · rcases List.mem_append.mp hs with hs | hs
            · exact hm s hs
            · cases List.mem_singleton.mp hs
              exact List.mem_of_getElem? hr'
        · rintro H6 ⟨s6, acc, rsA, hd, hl, he, hm⟩
          have la : rsA.length = (49 + r).toNat := by rw [← he.1, hl]
          have f6 := f5.same s6
          exact ⟨Dd, _, acc, rsA, _, rfl, FS.done e' (S5.same s6) (by omega) ((fs.kp.trans kp5).trans (Keep.of s6)) (f5.setB s6 (old_none (fs.kp.trans kp5) S5 hD) hD hd he (fun s hs => f6.cr s (hm s hs)) (by omega)) (bad_many (by omega))⟩
      · exact ⟨_, _, _, _, _, rfl, fs.skip (fun z => e (by rw [z]))⟩
    clear fs
    rintro _ H5 ⟨B, T', refs2, rs, ss, rfl, fs⟩
    -- kind 2
    refine ⟨fun σ' H' => ∃ B T refs' rs ss, σ' = [some (.ref a), some (.ref B), some (.ref T), some (.int (refs.length : Int)), some (.int (i : Int)), some (.int kd), some (.ref L), none, none] ∧ FS a l H n rows starts kd 3 B T L refs' rs ss H', ?_, ?_⟩
    · refine ⟨_, rfl, rfl, _, rfl, ifD_2 (fun e => ?_) (fun e => ?_)⟩
      · have e' : kd = 2 := by injection e
        obtain ⟨S4, rfl, rfl, hl2⟩ := hB4 fs e'
        obtain ⟨c, hc⟩ := at4 hl2
        have hrow : rows[i]? = some rows[i] := List.getElem?_eq_getElem hi
        obtain ⟨c, rfl, hcl⟩ := fs.f.hE.2 _ _ _ hc hrow
        obtain ⟨x1, x2, x3, x4, erow⟩ := row_four (hok _ (List.getElem_mem hi))
        have hcells := fs.f.cr _ (List.getElem_mem hi)
        rw [erow] at hcl hrow hcells
        refine ⟨_, rfl, _, rfl, B, refs2, _, _, rfl, rfl, SqL.of fs.f.hB, atI_nat hc, by show 2 ≤ sizeLine; decide, fun q hq => ?_⟩
        have sq := new_ (o := .lst [.bl false, .int 0]) hq
        refine ⟨c, q, _, _, rfl, rfl, sq _ _ hcl.2.2, upd_same, by show 4 + 2 ≤ sizeLine; decide, fun p hp => ?_⟩
        have sp := new_ (o := .lst ([x1, x2, x3, x4] ++ [V.bl false, V.int 0])) hp
        refine ⟨by show 6 ≤ sizeLine; decide, fun u hu => ?_⟩
        have su := new_ (o := .lst [V.int 0, .int 1, .int 2, .int 3, .int 5, .int 6]) hu
        have s5 := (sq.trans sp).trans su
        refine ⟨_, rfl, a, l, _, _, rfl, S4.same s5, by omega, by decide, e24 (by decide) (by decide), fun d H6 d0 d1 S6 kp6 => ?_⟩
        obtain ⟨k, hk, k4, k6⟩ := six d0 d1
        have S5 := S4.same s5
        obtain ⟨ua, ul⟩ := (S4.same (sq.trans sp)).ne hu
        obtain ⟨pa, pl⟩ := (S4.same sq).ne hp
        refine ⟨u, _, _, _, rfl, rfl, SqL.of (kp6 _ _ ua ul upd_same), hk, _, rfl, p, _, rfl, SqL.of (kp6 _ _ pa pl (su _ _ upd_same)), fun g hg => ?_⟩
        have sg := new_ (o := .lst (cutV ([x1, x2, x3, x4] ++ [V.bl false, V.int 0]) none (some (k : Int)))) hg
        have f6 := ((fs.f.same s5).keep S0 S5 S6 kp6)
        have f7 := f6.same sg
        have kp7 := ((fs.kp.trans (Keep.of s5)).trans kp6)
        have S7 := S6.same sg
        have g0 : H g = none := old_none kp7 S6 hg
        obtain ⟨Ba, Bl⟩ := S0.ne f7.B0
        have hcc : ∀ x ∈ cutV ([x1, x2, x3, x4] ++ [V.bl false, V.int 0]) none (some (k : Int)), Cell (upd H6 g (.lst (cutV ([x1, x2, x3, x4] ++ [V.bl false, V.int 0]) none (some (k : Int))))) x := by
          intro x hx
          rw [cut_to] at hx
          have hx := List.mem_of_mem_take hx
          rcases List.mem_append.mp hx with hx | hx
          · exact ((hcells x hx).kin (Kin.same s5)).kin ((kp6.kin S5 S6).trans (Kin.same sg))
          · simp only [List.mem_cons, List.not_mem_nil, or_false] at hx
            rcases hx with rfl | rfl
            · exact .bl _
            · exact .int _
        have hEg : Ea (upd H6 g (.lst (cutV ([x1, x2, x3, x4] ++ [V.bl false, V.int 0]) none (some (k : Int))))) (NL H [B, T', L]) (refs2.set i (.ref g)) (rows.set i (cutV ([x1, x2, x3, x4] ++ [V.bl false, V.int 0]) none (some (k : Int)))) := by
          refine ⟨by rw [List.length_set, List.length_set]; exact f7.hE.1, fun j x r h1 h2 => ?_⟩
          by_cases hij : j = i
          · subst hij
            rw [List.getElem?_set_self (by omega)] at h1
            rw [List.getElem?_set_self hi] at h2
            cases h1
            cases h2
            refine ⟨g, rfl, g0, ?_, upd_same⟩
            obtain ⟨xs, q, _⟩ := f6.hL
            simp only [List.mem_cons, List.not_mem_nil, or_false, not_or]
            exact ⟨(ne_of_none f6.hB hg).symm, (ne_of_none f6.hT hg).symm, (ne_of_none q hg).symm⟩
          · rw [List.getElem?_set_ne (Ne.symm hij)] at h1 h2
            exact f7.hE.2 j x r h1 h2
        have hbad : tabOk (rows.set i (cutV ([x1, x2, x3, x4] ++ [V.bl false, V.int 0]) none (some (k : Int)))) starts = false := by
          refine bad_row (List.getElem?_set_self hi) (row_len ?_)
          rw [cut_to, List.length_take]
          show min k 6 ≠ 4
          omega
        refine ⟨_, rfl, _, rfl, B, refs2, _, i, rfl, rfl, f7.hB, Evl.ixN_nat (by omega), B, _, _, _, _, rfl, FS.done e' (S7.lst f7.hB Ba Bl) (by omega) ?_ (f7.putB hEg ?_ ?_) hbad⟩
        · intro c o ca cl z
          rw [upd_ne (ne_of_none z f7.B0)]
          exact sg _ _ (kp7 c o ca cl z)
        · intro s hs x hx
          rcases List.mem_or_eq_of_mem_set hs with hs | rfl
          · exact f7.cr s hs x hx
          · exact hcc x hx
        · rw [List.length_set]
          exact f7.l1
      · exact ⟨_, _, _, _, _, rfl, fs.skip (fun z => e (by rw [z]))⟩
    clear fs
    rintro _ H6 ⟨B, T', refs2, rs, ss, rfl, fs⟩
    -- kind 3
    refine ⟨fun σ' H' => ∃ B T refs' rs ss, σ' = [some (.ref a), some (.ref B), some (.ref T), some (.int (refs.length : Int)), some (.int (i : Int)), some (.int kd), some (.ref L), none, none] ∧ FS a l H n rows starts kd 4 B T L refs' rs ss H', ?_, ?_⟩
    · refine ⟨_, rfl, rfl, _, rfl, ifD_2 (fun e => ?_) (fun e => ?_)⟩
      · have e' : kd = 3 := by injection e
        obtain ⟨S4, rfl, rfl, hl2⟩ := hB4 fs e'
        obtain ⟨c, hc⟩ := at4 hl2
        have hrow : rows[i]? = some rows[i] := List.getElem?_eq_getElem hi
        obtain ⟨c, rfl, hcl⟩ := fs.f.hE.2 _ _ _ hc hrow
        obtain ⟨x1, x2, x3, x4, erow⟩ := row_four (hok _ (List.getElem_mem hi))
        have hcells := fs.f.cr _ (List.getElem_mem hi)
        rw [erow] at hcl hrow hcells
        obtain ⟨xs, hLx, l9, hxs⟩ := fs.f.hL
        obtain ⟨La, Ll⟩ := S0.ne fs.f.L0
        refine ⟨_, rfl, _, rfl, a, l, L, _, xs, rfl, S4, by omega, hLx, La, Ll, by omega, by omega, fun ix x H6 hx S5 kp5 => ?_⟩
        obtain ⟨cx, bx⟩ := hxs x (List.mem_of_getElem? hx)
        have f5 := fs.f.keep S0 S4 S5 kp5
        have cx5 := cx.kin (kp5.kin S4 S5)
        obtain ⟨rs', e1, e2, f6⟩ := f5.putR (r' := [x, x2, x3, x4]) hc hrow (by
          intro y hy
          simp only [List.mem_cons, List.not_mem_nil, or_false] at hy
          have hk := kp5.kin S4 S5
          have h1 := (hcells x1 (by simp)).kin hk
          have h2 := (hcells x2 (by simp)).kin hk
          have h3 := (hcells x3 (by simp)).kin hk
          have h4 := (hcells x4 (by simp)).kin hk
          rcases hy with rfl | rfl | rfl | rfl <;> assumption)
        have hc5 := (hcl.keep S0 kp5)
        obtain ⟨ca, cl⟩ := S0.ne hcl.1
        refine ⟨_, rfl, _, rfl, B, refs2, _, _, rfl, rfl, SqL.of f5.hB, atI_nat hc, c, _, _, 0, rfl, rfl, hc5.2.2, rfl, B, _, _, _, _, rfl, FS.done e' (S5.lst hc5.2.2 ca cl) (by omega) ?_ f6 (bad_row e2 ?_)⟩
        · intro d o da dl z
          rw [upd_ne (ne_of_none z hcl.1)]
          exact kp5 _ _ da dl (fs.kp _ _ da dl z)
        · rw [e1]
          show (below rows.length x && below rows.length x3 && _) = false
          rw [bx]
          simp
      · exact ⟨_, _, _, _, _, rfl, fs.skip (fun z => e (by rw [z]))⟩
    clear fs
    rintro _ H7 ⟨B, T', refs2, rs, ss, rfl, fs⟩
    -- kind 4
    refine ⟨fun σ' H' => ∃ B T refs' rs ss, σ' = [some (.ref a), some (.ref B), some (.ref T), some (.int (refs.length : Int)), some (.int (i : Int)), some (.int kd), some (.ref L), none, none] ∧ FS a l H n rows starts kd 5 B T L refs' rs ss H', ?_, ?_⟩
    · refine ⟨_, rfl, rfl, _, rfl, ifD_2 (fun e => ?_) (fun e => ?_)⟩
      · have e' : kd = 4 := by injection e
        obtain ⟨S4, rfl, rfl, hl2⟩ := hB4 fs e'
        obtain ⟨c, hc⟩ := at4 hl2
        have hrow : rows[i]? = some rows[i] := List.getElem?_eq_getElem hi
        obtain ⟨c, rfl, hcl⟩ := fs.f.hE.2 _ _ _ hc hrow
        obtain ⟨x1, x2, x3, x4, erow⟩ := row_four (hok _ (List.getElem_mem hi))
        have hcells := fs.f.cr _ (List.getElem_mem hi)
        rw [erow] at hcl hrow hcells
        obtain ⟨xs, hLx, l9, hxs⟩ := fs.f.hL
        obtain ⟨La, Ll⟩ := S0.ne fs.f.L0
        refine ⟨_, rfl, _, rfl, a, l, L, _, xs, rfl, S4, by omega, hLx, La, Ll, by omega, by omega, fun ix x H6 hx S5 kp5 => ?_⟩
        obtain ⟨cx, bx⟩ := hxs x (List.mem_of_getElem? hx)
        have f5 := fs.f.keep S0 S4 S5 kp5
        have cx5 := cx.kin (kp5.kin S4 S5)
        obtain ⟨rs', e1, e2, f6⟩ := f5.putR (r' := [x1, x2, x, x4]) hc hrow (by
          intro y hy
          simp only [List.mem_cons, List.not_mem_nil, or_false] at hy
          have hk := kp5.kin S4 S5
          have h1 := (hcells x1 (by simp)).kin hk
          have h2 := (hcells x2 (by simp)).kin hk
          have h3 := (hcells x3 (by simp)).kin hk
          have h4 := (hcells x4 (by simp)).kin hk
          rcases hy with rfl | rfl | rfl | rfl <;> assumption)
        have hc5 := (hcl.keep S0 kp5)
        obtain ⟨ca, cl⟩ := S0.ne hcl.1
        refine ⟨_, rfl, _, rfl, B, refs2, _, _, rfl, rfl, SqL.of f5.hB, atI_nat hc, c, _, _, 2, rfl, rfl, hc5.2.2, rfl, B, _, _, _, _, rfl, FS.done e' (S5.lst hc5.2.2 ca cl) (by omega) ?_ f6 (bad_row e2 ?_)⟩
        · intro d o da dl z
          rw [upd_ne (ne_of_none z hcl.1)]
          exact kp5 _ _ da dl (fs.kp _ _ da dl z)
        · rw [e1]
          show (below rows.length x1 && below rows.length x && _) = false
          rw [bx]
          simp
      · exact ⟨_, _, _, _, _, rfl, fs.skip (fun z => e (by rw [z]))⟩
    clear fs
    rintro _ H8 ⟨B, T', refs2, rs, ss, rfl, fs⟩
    -- kind 5
    refine ⟨fun σ' H' => ∃ B T refs' rs ss, σ' = [some (.ref a), some (.ref B), some (.ref T), some (.int (refs.length : Int)), some (.int (i : Int)), some (.int kd), some (.ref L), none, none] ∧ FS a l H n rows starts kd 6 B T L refs' rs ss H', ?_, ?_⟩
    · refine ⟨_, rfl, rfl, _, rfl, ifD_2 (fun e => ?_) (fun e => ?_)⟩
      · have e' : kd = 5 := by injection e
        obtain ⟨S4, rfl, rfl, hl2⟩ := hB4 fs e'
        obtain ⟨c, hc⟩ := at4 hl2
        have hrow : rows[i]? = some rows[i] := List.getElem?_eq_getElem hi
        obtain ⟨c, rfl, hcl⟩ := fs.f.hE.2 _ _ _ hc hrow
        obtain ⟨x1, x2, x3, x4, erow⟩ := row_four (hok _ (List.getElem_mem hi))
        have hcells := fs.f.cr _ (List.getElem_mem hi)
        rw [erow] at hcl hrow hcells
        refine ⟨_, rfl, by show 1 ≤ sizeLine; decide, fun u hu => ⟨by show 6 ≤ sizeLine; decide, fun g hg => ?_⟩⟩
        have su := new_ (o := .tup [.bl true]) hu
        have sg := new_ (o := .lst [.int 0, .int 1, .non, .str "fall", .str "", .ref u]) hg
        have s5 := su.trans sg
        have S5 := S4.same s5
        obtain ⟨ga, gl⟩ := (S4.same su).ne hg
        refine ⟨a, l, g, _, _, rfl, S5, by omega, upd_same, ga, gl, by show 1 ≤ 6; decide, by show 6 ≤ 48; decide, fun ix x H6 hx S6 kp6 => ?_⟩
        have hxx : Cell (upd (upd H8 u (.tup [.bl true])) g (.lst [.int 0, .int 1, .non, .str "fall", .str "", .ref u])) x ∧ isB x = false := by
          have hx' := List.mem_of_getElem? hx
          simp only [List.mem_cons, List.not_mem_nil, or_false] at hx'
          rcases hx' with rfl | rfl | rfl | rfl | rfl | rfl
          · exact ⟨.int _, rfl⟩
          · exact ⟨.int _, rfl⟩
          · exact ⟨.non, rfl⟩
          · exact ⟨.str _, rfl⟩
          · exact ⟨.str _, rfl⟩
          · exact ⟨.tup (sg _ _ upd_same), rfl⟩
        obtain ⟨cx, bx⟩ := hxx
        have f6 := (fs.f.same s5).keep S0 S5 S6 kp6
        refine ⟨_, rfl, _, rfl, B, refs2, _, _, rfl, rfl, SqL.of f6.hB, atI_nat hc, _, rfl, a, l, _, _, rfl, S6, by omega, by decide, e24 (by decide) (by decide), fun d H7 d0 d1 S7 kp7 => ⟨_, _, rfl, rfl, .inl (by decide), _, _, rfl, rfl, ?_⟩⟩
        have f7 := f6.keep S0 S6 S7 kp7
        have hkin := (Kin.same s5).trans ((kp6.kin S5 S6).trans (kp7.kin S6 S7))
        have hc7 := ((hcl.same s5).keep S0 kp6).keep S0 kp7
        have cx7 := cx.kin ((kp6.kin S5 S6).trans (kp7.kin S6 S7))
        obtain ⟨ca, cl⟩ := S0.ne hcl.1
        have g1 := (hcells x1 (by simp)).kin hkin
        have g2 := (hcells x2 (by simp)).kin hkin
        have g3 := (hcells x3 (by simp)).kin hkin
        have g4 := (hcells x4 (by simp)).kin hkin
        have kp07 := (((fs.kp.trans (Keep.of s5)).trans kp6).trans kp7)
        rcases (by omega : d = 0 ∨ d = 1) with rfl | rfl
        · obtain ⟨rs', e1, e2, f8⟩ := f7.putR (r' := [x1, x, x3, x4]) hc hrow (by
            intro y hy
            simp only [List.mem_cons, List.not_mem_nil, or_false] at hy
            rcases hy with rfl | rfl | rfl | rfl <;> assumption)
          refine ⟨c, _, _, 1, rfl, rfl, hc7.2.2, rfl, B, _, _, _, _, rfl, FS.done e' (S7.lst hc7.2.2 ca cl) (by omega) ?_ f8 (bad_row e2 ?_)⟩
          · intro d o da dl z
            rw [upd_ne (ne_of_none z hcl.1)]
            exact kp07 _ _ da dl z
          · rw [e1]
            show (_ && _ && (isB x && _)) = false
            rw [bx]
            simp
        · obtain ⟨rs', e1, e2, f8⟩ := f7.putR (r' := [x1, x2, x3, x]) hc hrow (by
            intro y hy
            simp only [List.mem_cons, List.not_mem_nil, or_false] at hy
            rcases hy with rfl | rfl | rfl | rfl <;> assumption)
          refine ⟨c, _, _, 3, rfl, rfl, hc7.2.2, rfl, B, _, _, _, _, rfl, FS.done e' (S7.lst hc7.2.2 ca cl) (by omega) ?_ f8 (bad_row e2 ?_)⟩
          · intro d o da dl z
            rw [upd_ne (ne_of_none z hcl.1)]
            exact kp07 _ _ da dl z
          · rw [e1]
            show (_ && _ && (_ && isB x)) = false
            rw [bx]
            simp
      · exact ⟨_, _, _, _, _, rfl, fs.skip (fun z => e (by rw [z]))⟩
    clear fs
    rintro _ H9 ⟨B, T', refs2, rs, ss, rfl, fs⟩
    -- kind 6
    refine ⟨fun σ' H' => ∃ B T refs' rs ss, σ' = [some (.ref a), some (.ref B), some (.ref T), some (.int (refs.length : Int)), some (.int (i : Int)), some (.int kd), some (.ref L), none, none] ∧ FS a l H n rows starts kd 7 B T L refs' rs ss H', ?_, ?_⟩
    · refine ⟨_, rfl, rfl, _, rfl, ifD_2 (fun e => ?_) (fun e => ?_)⟩
      · have e' : kd = 6 := by injection e
        obtain ⟨S4, rfl, rfl, hl2⟩ := hB4 fs e'
        refine ⟨by show 1 ≤ sizeLine; decide, fun p hp => ⟨by show 11 ≤ sizeLine; decide, fun u hu => ?_⟩⟩
        have sp := new_ (o := .lst [.int 0]) hp
        have su := new_ (o := .lst [V.int 0, .int 2, .int 3, .int 5, .int 8, .int 10, .int 12, .int 15, .int 17, .int 25, .int 36]) hu
        have s5 := sp.trans su
        have S5 := S4.same s5
        obtain ⟨ua, ul⟩ := (S4.same sp).ne hu
        obtain ⟨pa, pl⟩ := S4.ne hp
        refine ⟨_, rfl, a, l, _, _, rfl, S5, by omega, by decide, e24 (by decide) (by decide), fun d H6 d0 d1 S6 kp6 => ?_⟩
        obtain ⟨k, hk, k4, k6⟩ := eleven d0 d1
        refine ⟨u, _, _, _, rfl, rfl, SqL.of (kp6 _ _ ua ul upd_same), hk, p, _, _, rfl, rfl, kp6 _ _ pa pl (su _ _ upd_same), by omega, by omega, ?_, fun g hg => ?_⟩
        · show 1 * k ≤ sizeLine
          exact Nat.le_trans (by omega : 1 * k ≤ 60) (by decide)
        have f6 := (fs.f.same s5).keep S0 S5 S6 kp6
        have kp06 := ((fs.kp.trans (Keep.of s5)).trans kp6)
        have sg := new_ (o := .lst (List.replicate k [V.int 0]).flatten) hg
        have hln : (List.replicate k [V.int 0]).flatten.length = k := by simp
        refine ⟨B, g, _, _, _, rfl, FS.done e' (S6.same sg) (by omega) (kp06.trans (Keep.of sg)) (f6.setT (old_none kp06 S6 hg) hg (fun x hx => ?_) (by show (List.replicate k [V.int 0]).flatten.length ≤ 60; rw [hln]; omega)) (bad_len (by show isRt (((List.replicate k [V.int 0]).flatten.length : Nat) : Int) = false; rw [hln]; exact k4))⟩
        rw [List.mem_flatten] at hx
        obtain ⟨ys, hys, hx⟩ := hx
        rw [(List.mem_replicate.mp hys).2] at hx
        cases List.mem_singleton.mp hx
        exact .int _
      · exact ⟨_, _, _, _, _, rfl, fs.skip (fun z => e (by rw [z]))⟩
    clear fs
    rintro _ H10 ⟨B, T', refs2, rs, ss, rfl, fs⟩
    -- kind 7
    refine ⟨fun σ' H' => ∃ B T refs' rs ss, σ' = [some (.ref a), some (.ref B), some (.ref T), some (.int (refs.length : Int)), some (.int (i : Int)), some (.int kd), some (.ref L), none, none] ∧ FS a l H n rows starts kd 8 B T L refs' rs ss H', ?_, ?_⟩
    · refine ⟨_, rfl, rfl, _, rfl, ifD_2 (fun e => ?_) (fun e => ?_)⟩
      · have e' : kd = 7 := by injection e
        obtain ⟨S4, rfl, rfl, hl2⟩ := hB4 fs e'
        obtain ⟨xs, hLx, l9, hxs⟩ := fs.f.hL
        obtain ⟨La, Ll⟩ := S0.ne fs.f.L0
        refine ⟨_, rfl, _, rfl, a, l, L, _, xs, rfl, S4, by omega, hLx, La, Ll, by omega, by omega, fun ix x H6 hx S5 kp5 => ?_⟩
        obtain ⟨cx, bx⟩ := hxs x (List.mem_of_getElem? hx)
        have f5 := fs.f.keep S0 S4 S5 kp5
        refine ⟨_, rfl, _, rfl, _, rfl, T', _, rfl, .inl (SqL.of f5.hT), a, l, _, _, rfl, S5, by omega, by omega, e24 (by omega) (by omega), fun d H7 d0 d1 S7 kp7 => ?_⟩
        have f7 := f5.keep S0 S5 S7 kp7
        have cx7 := cx.kin ((kp5.kin S4 S5).trans (kp7.kin S5 S7))
        have kp07 := (fs.kp.trans kp5).trans kp7
        obtain ⟨Ta, Tl⟩ := S0.ne f7.T0
        have hd : d.toNat < starts.length := by omega
        have hix : ixN starts.length d = some d.toNat := by
          have := Evl.ixN_nat hd
          rw [Int.toNat_of_nonneg d0] at this
          exact this
        refine ⟨T', _, d, d.toNat, rfl, rfl, f7.hT, hix, B, T', _, _, _, rfl, FS.done e' (S7.lst f7.hT Ta Tl) (by omega) ?_ (f7.putT (fun y hy => ?_) (by rw [List.length_set]; omega)) (bad_start (List.mem_set hd x) bx)⟩
        · intro c o da dl z
          rw [upd_ne (ne_of_none z f7.T0)]
          exact kp07 _ _ da dl z
        · rcases List.mem_or_eq_of_mem_set hy with hy | rfl
          · exact f7.cs y hy
          · exact cx7
      · exact ⟨_, _, _, _, _, rfl, fs.skip (fun z => e (by rw [z]))⟩
    clear fs
    rintro _ H11 ⟨B, T', refs2, rs, ss, rfl, fs⟩
    obtain ⟨m, hm, S9, _⟩ := fs.m
    refine ⟨_, rfl, _, rfl, by show 2 ≤ sizeLine; decide, fun tp htp => ?_⟩
    have st := new_ (o := .tup [.ref B, .ref T']) htp
    have f9 := fs.f.same st
    obtain ⟨Ba, Bl⟩ := S0.ne f9.B0
    refine kk tp B T' refs2 rs ss m _ upd_same f9.hB Ba Bl (f9.hE.imp fun c r q => .inr ⟨?_, q.2.2⟩) f9.hT (S0.ne f9.T0).1 (S0.ne f9.T0).2 (fs.bad (by omega)) f9.l1 f9.l2 f9.cr f9.cs (S9.same st) hm (fs.kp.trans (Keep.of st))
    obtain ⟨ca, cl⟩ := S0.ne q.1
    simp [ca, cl]
end
end PA

set_option maxHeartbeats 4000000
namespace L2
open PySem PySem.Spec PyProof.Rows
theorem pss_ex {Y : Cx} {ss : List Stmt} {ts : TS} (h : ∀ D σ H, ts D σ H → ∃ t', PSs Y ss t' ∧ t' D σ H) : PSs Y ss ts :=
  ⟨fun pins s σ H D I q => by
    obtain ⟨t', p, q'⟩ := h D σ H q
    exact p.run pins s σ H D I q'⟩
/-- isinstance of a caught error and a tuple of classes -/
theorem call_isET {X : Cx} {a D : Addr} {oe : Obj} {pn : List (Addr × Obj)} (C : ExcC X.K D) (hz : Zc (.ref D) none oe) (hf : ∃ vs, oe.data = .fields vs) :
    CallR (X.suite a ((a, oe) :: pn)) (.builtin "isinstance") (fun xs H Q => ∃ (tp : Addr) (cs : List V) (us : List Value) (b : Bool), xs = [.ref a, .ref tp] ∧ H tp = some (.tup cs) ∧ Paired ClsV cs us ∧ PySem.W.kitAny X.K (.ref D) us = some b ∧ Q (.bl b) H) := by
  intro pins s σ H xs us Q I r h
  obtain ⟨tp, cs, ws, b, rfl, ht, hp, hk, q⟩ := h
  cases r with
  | cons rx rr =>
    cases rr with
    | cons rt rr =>
      cases rr
      cases rx
      cases rt
      obtain ⟨its, rv, ⟨ob, e, ec, m, ed⟩, _⟩ := I.tuple (SqT.of ht)
      obtain ⟨ocl, odi, oda, osl⟩ := ob
      simp only at ec ed
      subst ec ed
      have ew := ClsV.all hp rv
      subst ew
      have hpin := I.pin (a, oe) (List.mem_append.mpr (.inl List.mem_cons_self))
      obtain ⟨vs, hvs⟩ := hf
      have hI : PySem.W.InstAt s.heap a oe D none := by
        refine ⟨hpin.1, hz.1, ?_, ?_⟩
        · unfold PySem.W.notCls
          rw [hvs]
        · rw [hz.2]
          trivial
      exact PySem.W.kia_tup (PySem.W.handS_kitx_exc C.hg C.hk C.hs C.hd C.ha C.hn C.ht C.hm) I.kIn hI e hk (by intro z; cases z) fun tk => ⟨.bl b, H, I.tok tk, rfl, q⟩
theorem passes_len {X : Cx} {W : WX} {n : Nat} (tk : Takes X W) (hn : X.N.length = n) : Passes (CX X.prog X.w) X (fun cls d H => ∀ σ : L2.St, σ.length = n → W cls d σ H) := by
  intro pins σ H s e s' I h
  obtain ⟨a, B, H', cls, d, h1, h2, h3, h4, h5, h6, h7, h8⟩ := h
  exact passAt tk σ pins H s e s' I ⟨a, B, H', cls, d, h1, h2, h3, h4, h5, h6, h7, h8 σ (I.len.trans hn)⟩
theorem passes_no {X : Cx} : Passes (CX X.prog X.w) X (fun _ _ _ => False) := by
  intro pins σ H s e s' I h
  obtain ⟨a, B, H', cls, d, h1, h2, h3, h4, h5, h6, h7, h8⟩ := h
  exact h8.elim
end L2
namespace PA
open PySem L2 RZ
open C8 (pss_cut tCut)
theorem boot_ve : bootBuiltins "ValueError" = some (.type "ValueError") := by decide +kernel
structure TxtE (K : PySem.W.Frag) (mg : Str → Option Value) (X c1 c2 c3 c4 : Addr) : Prop where
  E : ExcC K X
  ve : mg "ValueError" = none
  kv : PySem.W.kitOne K (.ref X) (.type "ValueError") = some true
  kx : PySem.W.kitOne K (.ref X) (.ref X) = some true
  g1 : mg "InvalidClaim" = some (.ref c1)
  g2 : mg "InvalidMix" = some (.ref c2)
  g3 : mg "InvalidRows" = some (.ref c3)
  g4 : mg "TooGreat" = some (.ref c4)
  k4 : PySem.W.kitAny K (.ref X) [.ref c1, .ref c2, .ref c3, .ref c4] = some false
/-- what makes Rules -/
structure LibR (K : PySem.W.Frag) (mg : Str → Option Value) (C X PE_ fI dd g1 g2 g3 g4 : Addr) (dI gd1 gd2 gd3 gd4 : FuncData) : Prop where
  T : Txt K mg C
  TX : TxtX K mg X PE_
  I : FunI K fI dI dd
  M : Mk K C fI
  b2 : Binds K dI ["self", "rows", "starts"] []
  D1 : Df K mg "is_integer" sIsInt g1 gd1 ["value"]
  D2 : Df K mg "is_below" sBelow g2 gd2 ["value", "count"]
  D3 : Df K mg "_is_row" sIsRow g3 gd3 ["row", "count"]
  D4 : Df K mg "_check_table" sCheck g4 gd4 ["rows", "starts"]
def spRefused : Sp := fun vs H Q _ => ∃ (G S : Addr) (refs : List V) (rows : List (List V)) (starts : List V), vs = [.ref G, .ref S] ∧
  (H G = some (.lst refs) ∨ H G = some (.tup refs)) ∧ Ea H TLc refs rows ∧ (H S = some (.lst starts) ∨ H S = some (.tup starts)) ∧
  rows.length ≤ 60 ∧ starts.length ≤ 60 ∧ (∀ r ∈ rows, ∀ x ∈ r, Cell H x) ∧ (∀ x ∈ starts, Cell H x) ∧ tabOk rows starts = false ∧ ∀ H', Same H H' → Q (.bl true) H'
section
variable {P : Program} {w : World} {K : PySem.W.Frag} {mg : Str → Option Value} {base : Heap} {C X PE_ fI dd g1 g2 g3 g4 c1 c2 c3 c4 : Addr} {dI gd1 gd2 gd3 gd4 : FuncData}
theorem scRefused : FnScope ["_law_rows", "_law_starts", "e"] ["_law_rows", "_law_starts"] (defScope sRefused) := ⟨rfl, rfl, rfl, by decide +kernel, rfl, by decide +kernel, by decide +kernel⟩
theorem ok_refused {f : Addr} {fd : FuncData} (F : Fun K "_law_refused" "_law_refused" sRefused f fd) (L : LibR K mg C X PE_ fI dd g1 g2 g3 g4 dI gd1 gd2 gd3 gd4) (TE : TxtE K mg X c1 c2 c3 c4) :
    FnOk P w K mg base CX0 7 f fd ["_law_rows", "_law_starts"] spRefused := by
  have T := L.T
  have GI : FnOk P w K mg base (L2.CX P w) 5 fI dI ["self", "rows", "starts"] (spInit C X) := ok_init L.I T L.TX L.D1 L.D2 L.D3 L.D4
  refine F.ok scRefused (fun vs H Q E h => ?_) (fun cdv A outer s H vs Q E hr h => ?_)
  · obtain ⟨G, S, _, _, _, rfl, _⟩ := h
    rfl
  · obtain ⟨G, S, refs, rows, starts, rfl, hG, hE, hS, l1, l2, hcr, hcs, bad, kk⟩ := h
    refine ⟨_, pss_cons (ps_try_as (i := 2) (tb := fun W => tDrop (tMake C (spInit C X) [] (fun cls d H => ∀ σ : L2.St, σ.length = 3 → W cls d σ H) (tCons (tVar 0) (tCons (tVar 1) tNil))))
        (ts := fun a cls d D σ H => cls = .ref X ∧ d = none ∧ σ = [σ[0]!, σ[1]!, some (.ref a)] ∧ ∀ H', Same H H' → D.rt (.bl true) H') (Wout := fun _ _ _ _ => False) rfl rfl scRefused.nd rfl rfl ⟨by rfl, by decide, .inl L.TX.gP⟩ takes0
      (fun W pn xe tk _ => pss_one (ps_expr (by exact (pe_make L.M GI (hr.mono (by decide)) (by rfl) T.mgC L.b2 .nil (passes_len tk rfl) (pa_cons (pv 0) (pa_cons (pv 1) pa_nil))))))
      (fun a oe cls d pn hz hf => pss_ex fun D σ H q => ?_)) (pss_one (ps_ret pe_bl)), ?_⟩
    · obtain ⟨rfl, rfl, es, k⟩ := q
      refine ⟨_, pss_cons (ps_if (PW.pt (pw_or (pt_not (pt_val (pe_callB (call_isE TE.E hz hf) (by rfl) T.isi boot_isi (pa_cons (pv 2) (pa_cons (pe_glob (v := .ref X) rfl L.TX.g rfl) pa_nil)))))
          (pw_or1 (pt_not (pt_val (pe_callB (call_isE TE.E hz hf) (by rfl) T.isi boot_isi (pa_cons (pv 2) (pa_cons (pe_bltn (v := .ty "ValueError") (by rfl) TE.ve boot_ve rfl) pa_nil)))))))) (pss_one (ps_ret pe_bl)) pss_nil)
        (pss_one (ps_ret (pe_not (pe_callB (call_isET TE.E hz hf) (by rfl) T.isi boot_isi (pa_cons (pv 2) (pa_cons (pe_tup (pa_cons (pe_glob (v := .ref c1) rfl TE.g1 rfl) (pa_cons (pe_glob (v := .ref c2) rfl TE.g2 rfl) (pa_cons (pe_glob (v := .ref c3) rfl TE.g3 rfl) (pa_cons (pe_glob (v := .ref c4) rfl TE.g4 rfl) pa_nil))))) pa_nil)))))), ?_⟩
      rw [es]
      refine ⟨_, rfl, _, _, _, rfl, fun u hu => hu, TE.kx, _, rfl, iteF ?_⟩
      refine ⟨_, rfl, _, _, _, rfl, fun u hu => hu, TE.kv, _, rfl, iteF ?_⟩
      refine ⟨_, rfl, by show 4 ≤ sizeLine; decide, fun tp htp => ?_⟩
      exact ⟨tp, _, _, _, rfl, upd_same, .cons (.own _) (.cons (.own _) (.cons (.own _) (.cons (.own _) .nil))), TE.k4, _, rfl, k _ (new_ htp)⟩
    refine ⟨_, rfl, _, rfl, fun x dx nx ndx nex => ?_⟩
    have s1 : Same H (upd (upd H dx (.own x)) x (.ins C dx [])) := fun c o e => by
      rw [upd_ne (ne_of_none e nx), upd_ne (ne_of_none e ndx)]
      exact e
    have up : ∀ (G : Addr) (xs : List V), (H G = some (.lst xs) ∨ H G = some (.tup xs)) → ((upd (upd H dx (.own x)) x (.ins C dx [])) G = some (.lst xs) ∨ (upd (upd H dx (.own x)) x (.ins C dx [])) G = some (.tup xs)) := fun G xs h => h.imp (fun h => s1 _ _ h) fun h => s1 _ _ h
    refine ⟨x, dx, G, S, refs, rows, starts, rfl, upd_same, up _ _ hG, hE.imp (fun c r q => q.imp (fun q => s1 _ _ q) fun q => s1 _ _ q), up _ _ hS, l1, l2, cells_kin hcr (Kin.same s1), fun x hx => (hcs x hx).kin (Kin.same s1), fun ok => absurd (bad.symm.trans ok) (by decide), fun _ H' kp σ hσ => ⟨true, L.TX.e, fun _ a ha => ?_, fun q => Bool.noConfusion q⟩⟩
    refine ⟨rfl, rfl, ?_, fun H2 s2 => kk _ (fun c o e => s2 _ _ (kp c o (s1 _ _ e) (ne_of_none e nx)))⟩
    match σ, hσ with
    | [y0, y1, y2], _ => rfl
end
end PA

set_option maxHeartbeats 8000000
namespace PA
open PySem L2 RZ
open C8 (pss_cut tCut)
theorem below_mono {n m : Nat} {x : V} (h : below n x = true) (hm : n ≤ m) : below m x = true := by
  cases x with
  | int i =>
    have h' : (decide (0 ≤ i) && decide (i < (n : Int))) = true := h
    simp only [Bool.and_eq_true, decide_eq_true_eq] at h'
    show (decide (0 ≤ i) && decide (i < (m : Int))) = true
    simp only [Bool.and_eq_true, decide_eq_true_eq]
    omega
  | _ => cases h
theorem rowOk_mono {n m : Nat} {r : List V} (h : rowOk n r = true) (hm : n ≤ m) : rowOk m r = true := by
  obtain ⟨a, f, b, g, rfl⟩ := row_four h
  have h' : (below n a && below n b && (isB f && isB g)) = true := h
  simp only [Bool.and_eq_true] at h'
  show (below m a && below m b && (isB f && isB g)) = true
  simp only [Bool.and_eq_true]
  exact ⟨⟨below_mono h'.1.1 hm, below_mono h'.1.2 hm⟩, h'.2⟩
theorem tab_of {L : List (List V)} {ss : List V} (h1 : 1 ≤ L.length) (h48 : L.length ≤ 48) (hr : ∀ r ∈ L, rowOk L.length r = true) {k : Int} (hk : Root (ss.length : Int) k) (hs : ∀ x ∈ ss, below L.length x = true) : tabOk L ss = true := by
  have e : isRt (ss.length : Int) = true := by
    generalize (ss.length : Int) = z at hk
    cases hk <;> rfl
  unfold tabOk
  rw [decide_eq_true h1, decide_eq_true h48, List.all_eq_true.mpr hr, e, List.all_eq_true.mpr hs]
  rfl
theorem root_inj {n k k' : Int} (h : Root n k) (h' : Root n k') : k = k' := by
  cases h <;> cases h' <;> rfl
theorem rv_cell {H : Hp} {r : Rw} : ∀ x ∈ rv r, Cell H x := by
  intro x hx
  unfold rv at hx
  simp only [List.mem_cons, List.not_mem_nil, or_false] at hx
  rcases hx with rfl | rfl | rfl | rfl
  · exact .int _
  · exact .bl _
  · exact .int _
  · exact .bl _
theorem rv_ok {n : Nat} {r : Rw} (h : RwOk n r) : rowOk n (rv r) = true := by
  obtain ⟨⟨a0, a1⟩, b0, b1⟩ := h
  show ((decide (0 ≤ r.1) && decide (r.1 < (n : Int))) && (decide (0 ≤ r.2.2.1) && decide (r.2.2.1 < (n : Int))) && (true && true)) = true
  rw [decide_eq_true a0, decide_eq_true a1, decide_eq_true b0, decide_eq_true b1]
  rfl
theorem each_ea {H : Hp} {refs : List V} {rows : List Rw} (e : Each H isT refs rows) : Ea H isC refs (rows.map rv) := by
  refine ⟨by rw [List.length_map]; exact e.1, fun i x r h1 h2 => ?_⟩
  rw [List.getElem?_map, Option.map_eq_some_iff] at h2
  obtain ⟨r', h2, rfl⟩ := h2
  exact e.2 i x r' h1 h2
theorem isC.kp {H H' : Hp} {a l c : Addr} {n : Nat} {r : List V} (q : isC H c r) (S : StreamAt H a l n) (k : Keep a l H H') : isC H' c r := by
  obtain ⟨ne, ns, x, z, h1, h2, _⟩ := S
  exact k _ _ (ne_of (H := H) q h1 (by intro z; cases z)) (ne_of (H := H) q h2 (by intro z; cases z)) q
/-- the table, in the law's own words -/
structure Fine (R : List (List V)) (ss : List V) (k : Int) : Prop where
  one : 1 ≤ R.length
  most : R.length ≤ 48
  ok : ∀ r ∈ R, rowOk R.length r = true
  cr : ∀ H, ∀ r ∈ R, ∀ x ∈ r, Cell H x
  root : Root (ss.length : Int) k
  st : ∀ x ∈ ss, below R.length x = true
  cs : ∀ H, ∀ x ∈ ss, Cell H x
theorem Good.fine {rows : List Rw} {starts : List Int} {k : Int} (g : Good rows starts k) : Fine (rows.map rv) (starts.map V.int) k := by
  refine ⟨by rw [List.length_map]; exact g.one, by rw [List.length_map]; exact g.most, fun r hr => ?_, fun H r hr => ?_, by rw [List.length_map]; exact g.root, fun x hx => ?_, fun H x hx => ?_⟩
  · rw [List.mem_map] at hr
    obtain ⟨r', hr, rfl⟩ := hr
    rw [List.length_map]
    exact rv_ok (g.ok r' hr)
  · rw [List.mem_map] at hr
    obtain ⟨r', hr, rfl⟩ := hr
    exact rv_cell
  · rw [List.mem_map] at hx
    obtain ⟨z, hz, rfl⟩ := hx
    obtain ⟨z0, z1⟩ := g.st z hz
    rw [List.length_map]
    show (decide (0 ≤ z) && decide (z < (rows.length : Int))) = true
    rw [decide_eq_true z0, decide_eq_true z1]
    rfl
  · rw [List.mem_map] at hx
    obtain ⟨z, hz, rfl⟩ := hx
    exact .int z
theorem root16 {n k : Int} (h : Root n k) : 1 ≤ n ∧ n ≤ 16 := by
  cases h <;> decide
/-- a Rule is made: what a reading needs -/
theorem mk_rule {C X : Addr} {H : Hp} {G S : Addr} {refs : List V} {R : List (List V)} {ss : List V} {k : Int} {x dx : Addr} {Q : VK}
    (nx : H x = none) (ndx : H dx = none)
    (hG : H G = some (.lst refs) ∨ H G = some (.tup refs)) (hE : Ea H TLc refs R) (hS : H S = some (.lst ss) ∨ H S = some (.tup ss)) (f : Fine R ss k)
    (kk : ∀ H', Same H H' → RuleAt C H' x R.length k → Q .non H') : spInit C X [V.ref x, V.ref G, V.ref S] (upd (upd H dx (.own x)) x (.ins C dx [])) Q (fun _ _ _ => False) := by
  have s1 : Same H (upd (upd H dx (.own x)) x (.ins C dx [])) := fun c o e => by
    rw [upd_ne (ne_of_none e nx), upd_ne (ne_of_none e ndx)]
    exact e
  have up : ∀ (G : Addr) (xs : List V), (H G = some (.lst xs) ∨ H G = some (.tup xs)) → ((upd (upd H dx (.own x)) x (.ins C dx [])) G = some (.lst xs) ∨ (upd (upd H dx (.own x)) x (.ins C dx [])) G = some (.tup xs)) := fun G xs h => h.imp (fun h => s1 _ _ h) fun h => s1 _ _ h
  have ok : tabOk R ss = true := tab_of f.one f.most f.ok f.root f.st
  have r16 := (root16 f.root).2
  refine ⟨x, dx, G, S, refs, R, ss, rfl, upd_same, up _ _ hG, hE.imp (fun c r q => q.imp (fun q => s1 _ _ q) fun q => s1 _ _ q), up _ _ hS, Nat.le_trans f.most (by decide), by omega, f.cr _, f.cs _, fun _ k' H' hk hr kp => ?_, fun bad => absurd (ok.symm.trans bad) (by decide)⟩
  have := root_inj f.root hk
  subst this
  exact kk H' (fun c o e => kp c o (s1 _ _ e) (ne_of_none e nx)) hr
def spLen (C : Addr) : Sp := fun vs H Q _ => ∃ (p : Addr) (n : Nat) (k : Int), vs = [.ref p] ∧ RuleAt C H p n k ∧ Q (.int (n : Int)) H
section
variable {P : Program} {w : World} {K : PySem.W.Frag} {mg : Str → Option Value} {base : Heap} {C : Addr}
theorem scLen : FnScope ["self"] ["self"] (defScope sLen) := ⟨rfl, rfl, rfl, by decide +kernel, rfl, by decide +kernel, by decide +kernel⟩
theorem ok_len {f : Addr} {fd : FuncData} (F : Fun K "__len__" "Rule.__len__" sLen f fd) (T : Txt K mg C) : FnOk P w K mg base CX0 1 f fd ["self"] (spLen C) := by
  refine F.ok scLen (fun vs H Q E h => ?_) (fun cdv A outer s H vs Q E hr h => ?_)
  · obtain ⟨p, _, _, rfl, _⟩ := h
    rfl
  · obtain ⟨p, n, k, rfl, ⟨dx, R, S, refs, hp, hR, hl⟩, kk⟩ := h
    refine ⟨_, pss_one (ps_ret (pe_callB call_len_seq (by rfl) T.len_ PySem.boot_len (pa_cons (pe_fld (pv 0) rfl) pa_nil))), ?_⟩
    refine ⟨_, rfl, p, C, dx, _, _, rfl, hp, T.cl, T.nR, rf_rows _ _ _, R, _, rfl, .inr (SqT.of hR), ?_⟩
    rw [hl]
    exact kk
end
/-- the whole program, as far as the law reaches -/
structure Prog (K : PySem.W.Frag) (mg : Str → Option Value) (C X PE_ fI dd g1 g2 g3 g4 c1 c2 c3 c4 fLen fDraw fStart fPick fTable fHanded fRefused fFault : Addr) (dI gd1 gd2 gd3 gd4 dLen dDraw dStart dPick dTable dHanded dRefused dFault : FuncData) : Prop where
  L : LibR K mg C X PE_ fI dd g1 g2 g3 g4 dI gd1 gd2 gd3 gd4
  TE : TxtE K mg X c1 c2 c3 c4
  FLen : Fun K "__len__" "Rule.__len__" sLen fLen dLen
  bLen : Binds K dLen ["self"] []
  mLen : Meth K C "__len__" fLen
  draw : Df K mg "_law_draw" sDraw fDraw dDraw ["_law_stream", "_law_many"]
  start : Df K mg "_law_start" sStart fStart dStart ["_law_script"]
  pick : Df K mg "_law_pick" sPick fPick dPick ["_law_stream", "_law_some"]
  table : Df K mg "_law_m_table" sTable fTable dTable ["_law_stream", "_law_most", "_law_marks"]
  handed : Df K mg "_law_m_handed" sHanded fHanded dHanded ["_law_stream", "_law_rows"]
  refused : Df K mg "_law_refused" sRefused fRefused dRefused ["_law_rows", "_law_starts"]
  fault : Df K mg "_law_fault" sFault fFault dFault ["_law_stream", "_law_rows", "_law_starts"]
def spLaw (K : PySem.W.Frag) : Sp := fun vs H Q _ => ∃ (a : Addr) (ns : List Int), vs = [.ref a] ∧ SqL K H a (ns.map V.int) ∧ ns.length ≤ 63 ∧ ∀ H', Q (.bl true) H'
section
variable {P : Program} {w : World} {K : PySem.W.Frag} {mg : Str → Option Value} {base : Heap}
theorem scLaw : FnScope ["_law_script", "_law_stream", "_law_rows", "_law_starts", "_law_marks", "_law_turn", "_law_bad", "_law_begins", "_law_most", "_law_k"] ["_law_script"] (defScope sLaw) := ⟨rfl, rfl, rfl, by decide +kernel, rfl, by decide +kernel, by decide +kernel⟩
theorem ok_law {f C X PE_ fI dd g1 g2 g3 g4 c1 c2 c3 c4 fLen fDraw fStart fPick fTable fHanded fRefused fFault : Addr} {fd dI gd1 gd2 gd3 gd4 dLen dDraw dStart dPick dTable dHanded dRefused dFault : FuncData} (F : Fun K "law" "law" sLaw f fd)
    (GG : Prog K mg C X PE_ fI dd g1 g2 g3 g4 c1 c2 c3 c4 fLen fDraw fStart fPick fTable fHanded fRefused fFault dI gd1 gd2 gd3 gd4 dLen dDraw dStart dPick dTable dHanded dRefused dFault) : FnOk P w K mg base CX0 8 f fd ["_law_script"] (spLaw K) := by
  have T := GG.L.T
  have L := GG.L
  have GI : FnOk P w K mg base (L2.CX P w) 5 fI dI ["self", "rows", "starts"] (spInit C X) := ok_init L.I T L.TX L.D1 L.D2 L.D3 L.D4
  have GLen : FnOk P w K mg base CX0 1 fLen dLen ["self"] (spLen C) := ok_len GG.FLen T
  have GDraw : FnOk P w K mg base CX0 1 fDraw dDraw ["_law_stream", "_law_many"] spDraw := ok_draw GG.draw.F T
  have GStart : FnOk P w K mg base CX0 1 fStart dStart ["_law_script"] (spStart K) := ok_start GG.start.F T
  have GTable : FnOk P w K mg base CX0 2 fTable dTable ["_law_stream", "_law_most", "_law_marks"] spTable := ok_table GG.table.F T GG.draw
  have GHanded : FnOk P w K mg base CX0 2 fHanded dHanded ["_law_stream", "_law_rows"] spHanded := ok_handed GG.handed.F T GG.draw
  have GFault : FnOk P w K mg base CX0 3 fFault dFault ["_law_stream", "_law_rows", "_law_starts"] spFault := ok_fault GG.fault.F T GG.draw GG.pick
  have GRefused : FnOk P w K mg base CX0 7 fRefused dRefused ["_law_rows", "_law_starts"] spRefused := ok_refused GG.refused.F L GG.TE
  refine F.ok scLaw (fun vs H Q E h => ?_) (fun cdv A outer s H vs Q E hr h => ?_)
  · obtain ⟨a, ns, rfl, _⟩ := h
    rfl
  · obtain ⟨a, ns, rfl, hS, hlen, kk⟩ := h
    have hr1 : Room 1 _ := hr.mono (by decide)
    have hr2 : Room 2 _ := hr.mono (by decide)
    have hr3 : Room 3 _ := hr.mono (by decide)
    have hr6 : Room 6 _ := hr.mono (by decide)
    refine ⟨_, pss_cons (ps_set (i := 1) scLaw.nd rfl (Or.inl rfl) (pe_call GStart hr1 rfl GG.start.M GG.start.F.kp GG.start.B .nil pass0 (pa_cons (pv 0) pa_nil)))
      (pss_cons (ps_asg (pe_call GTable hr2 rfl GG.table.M GG.table.F.kp GG.table.B .nil pass0 (pa_cons (pv 1) (pa_cons (pe_ix ix_list (pe_lst (pa_cons pe_int (pa_cons pe_int (pa_cons pe_int pa_nil)))) (pe_call GDraw hr1 rfl GG.draw.M GG.draw.F.kp GG.draw.B .nil pass0 (pa_cons (pv 1) (pa_cons pe_int pa_nil))) (fun _ _ => rfl)) (pa_cons pe_int pa_nil))))
        (pg_tup rfl (pgs_cons (pg_name (i := 2) scLaw.nd rfl (Or.inr rfl)) (pgs_cons (pg_name (i := 3) scLaw.nd rfl (Or.inl rfl)) (pgs_cons (pg_name (i := 4) scLaw.nd rfl (Or.inl rfl)) pgs_nil)))))
      (pss_cons (ps_for PassesOwn.never rfl (pi_range1 (by rfl) T.range_ (pa_cons pe_int pa_nil)) (pg_name (i := 5) scLaw.nd rfl (Or.inl rfl))
        (pss_cons (ps_asg (pe_call GFault hr3 rfl GG.fault.M GG.fault.F.kp GG.fault.B .nil pass0 (pa_cons (pv 1) (pa_cons (pv 2) (pa_cons (pv 3) pa_nil))))
          (pg_tup rfl (pgs_cons (pg_name (i := 6) scLaw.nd rfl (Or.inl rfl)) (pgs_cons (pg_name (i := 7) scLaw.nd rfl (Or.inl rfl)) pgs_nil))))
        (pss_one (ps_if (pt_not (pt_val (pe_call GRefused hr rfl GG.refused.M GG.refused.F.kp GG.refused.B .nil pass0 (pa_cons (pe_call GHanded hr2 rfl GG.handed.M GG.handed.F.kp GG.handed.B .nil pass0 (pa_cons (pv 1) (pa_cons (pv 6) pa_nil))) (pa_cons (pv 7) pa_nil))))) pss_never pss_nil))))
      (pss_cons (ps_setLc (i := 8) (own := [("_law_k", 9)]) (g := gName 9) (tt := tYes) (by rfl) scLaw.nd rfl rfl (sw_true rfl rfl rfl (by decide +kernel)) (pi_range1 (by rfl) T.range_ (pa_cons pe_int pa_nil)) (blkOk_by (N := ["_law_script", "_law_stream", "_law_rows", "_law_starts", "_law_marks", "_law_turn", "_law_bad", "_law_begins", "_law_most", "_law_k"]) (sc := defScope sLaw) (by decide +kernel))
          (fun _ _ _ _ _ => pg_name (i := 9) scLaw.nd rfl (Or.inl rfl)) (fun _ _ _ _ _ => pts_nil)
          (fun _ _ _ _ _ => pe_ix (ix_listK (K := K) rfl) (pv 2) (pe_op op_mod (pe_callTy call_int1 (by rfl) T.int_ boot_int' (pa_cons (pv 9) pa_nil)) (pe_callB (call_lenK (K := K) rfl) (by rfl) T.len_ PySem.boot_len (pa_cons (pv 2) pa_nil))) (fun _ _ => rfl)))
      (pss_cons (ps_if (PW.pt (pw_or (pt_cmpR op_ne (pe_callB (call_lenOwn (E := E0) GG.mLen.at_ GG.mLen.fn GLen hr2 GG.bLen pass0) (by rfl) T.len_ PySem.boot_len (pa_cons (pe_make (E := E0) L.M GI hr6 rfl T.mgC L.b2 .nil passes_no (pa_cons (pv 8) (pa_cons (pv 3) pa_nil))) pa_nil)) pe_int (nomark _))
          (pw_or1 (pt_cmpR op_ne (pe_fld (pe_make (E := E0) L.M GI hr6 rfl T.mgC L.b2 .nil passes_no (pa_cons (pv 2) (pa_cons (pv 3) pa_nil))) rfl) (pv 4) (nomark _))))) pss_never pss_nil)
      (pss_one (ps_ret (pe_cmpR op_eq (pe_callB (call_lenOwn (E := E0) GG.mLen.at_ GG.mLen.fn GLen hr2 GG.bLen pass0) (by rfl) T.len_ PySem.boot_len (pa_cons (pe_make (E := E0) L.M GI hr6 rfl T.mgC L.b2 .nil passes_no (pa_cons (pv 2) (pa_cons (pe_callTy call_tuple_of (by rfl) T.tup_ boot_tuple' (pa_cons (pe_op op_rep (pe_lst (pa_cons (pe_ix ix_list (pv 3) pe_int (fun _ _ => rfl)) pa_nil)) pe_int) pa_nil)) pa_nil))) pa_nil)) (pe_callB call_len_seq (by rfl) T.len_ PySem.boot_len (pa_cons (pv 2) pa_nil)) (nomark _)))))))), ?_⟩
    refine ⟨_, rfl, a, ns, rfl, hS, hlen, fun sa sl H1 S1 _ _ s1 => ?_⟩
    refine ⟨_, rfl, by show 3 ≤ sizeLine; decide, fun q hq => ?_⟩
    have sq := new_ (o := .lst [V.int 3, .int 12, .int 48]) hq
    obtain ⟨qa, ql⟩ := S1.ne hq
    refine ⟨_, rfl, sa, sl, 0, 3, rfl, S1.same sq, by decide, by decide, by decide, fun d H2 d0 d1 S2 k2 => ?_⟩
    obtain ⟨most, hmo, mo1, mo48⟩ : ∃ most : Int, atI [V.int 3, .int 12, .int 48] d = some (.int most) ∧ 1 ≤ most ∧ most ≤ 48 := by
      rcases (by omega : d = 0 ∨ d = 1 ∨ d = 2) with rfl | rfl | rfl
      · exact ⟨3, rfl, by decide, by decide⟩
      · exact ⟨12, rfl, by decide, by decide⟩
      · exact ⟨48, rfl, by decide, by decide⟩
    refine ⟨q, _, _, _, rfl, rfl, SqL.of (k2 _ _ qa ql upd_same), hmo, sa, sl, 1, most, 4, rfl, S2, by decide, mo1, mo48, by decide, by decide, fun t R S refs rows0 starts0 k n3 H3 ht hR hE0 hS3 gd S3 hn3 k3 Ra Rl Sa Sl _ _ => ?_⟩
    have fine := gd.fine
    have hE3 := each_ea hE0
    generalize rows0.map rv = rows at fine hE3
    generalize starts0.map V.int = starts at fine hS3
    clear gd hE0
    have hl3 : refs.length = rows.length := hE3.1
    have o1 := fine.one
    have o48 := fine.most
    have r16 := root16 fine.root
    refine ⟨t, _, rfl, SqT.of ht, rfl, _, _, rfl, _, _, rfl, _, _, rfl, rfl, ?_⟩
    refine ⟨4, rfl, by decide, by decide, ?_⟩
    refine for_range (n := 4) (fun i σ' H' => ∃ x5 x6 x7 n', σ' = [some (.ref a), some (.ref sa), some (.ref R), some (.ref S), some (.int k), x5, x6, x7, none, none] ∧ n' ≤ 500 + 100 * i ∧ StreamAt H' sa sl n' ∧ Keep sa sl H3 H') ?_ ?_ ?_
    · exact ⟨none, none, none, n3, rfl, by omega, S3, Keep.refl _ _ _⟩
    · rintro i _ H4 hi ⟨x5, x6, x7, n4, rfl, hn4, S4, k4⟩
      have hR4 := k4 _ _ Ra Rl hR
      have hS4 := k4 _ _ Sa Sl hS3
      have hE4 : Ea H4 isC refs rows := hE3.imp fun c r q => isC.kp q S3 k4
      refine ⟨_, rfl, _, rfl, _, rfl, sa, sl, R, S, n4, refs, rows, starts, rfl, S4, by omega, Ra, Rl, Sa, Sl, hR4, hE4, hS4, fine.ok, o1, o48, by omega, by omega, fine.cr _, fine.cs _, fun t5 B T' refs5 rs ss n5 H5 ht5 hB5 Ba Bl hE5 hT5 Ta Tl bad l1 l2 cr5 cs5 S5 hn5 k5 => ?_⟩
      refine ⟨t5, _, rfl, SqT.of ht5, rfl, _, _, rfl, _, _, rfl, rfl, ?_⟩
      refine ⟨_, rfl, _, rfl, sa, sl, B, n5, refs5, rs, rfl, S5, by omega, hB5, Ba, Bl, hE5, l1, fun G refs6 n6 H6 hG6 hE6 S6 hn6 k6 => ?_⟩
      have kin := k6.kin S5 S6
      refine ⟨_, rfl, G, T', refs6, rs, ss, rfl, hG6, hE6.imp fun c r q => q.tl, .inl ?_, l1, l2, cells_kin cr5 kin, fun x hx => (cs5 x hx).kin kin, bad, fun H7 s7 => ?_⟩
      · exact k6 _ _ Ta Tl hT5
      · exact ⟨true, rfl, iteF ⟨_, _, _, n6, rfl, by omega, S6.same s7, (k4.trans k5).trans (k6.trans (Keep.of s7))⟩⟩
    rintro _ H4 ⟨x5, x6, x7, n4, rfl, hn4, S4, k4⟩
    have hR4 := k4 _ _ Ra Rl hR
    have hS4 := k4 _ _ Sa Sl hS3
    have hE4 : Ea H4 isC refs rows := hE3.imp fun c r q => isC.kp q S3 k4
    refine ⟨48, rfl, by decide, by decide, fun Dd hD => ?_⟩
    have hkey : ∀ k : Nat, ∃ x r', refs[k % rows.length]? = some x ∧ rows[k % rows.length]? = some r' := fun k => ⟨_, _, List.getElem?_eq_getElem (by rw [hl3]; exact Nat.mod_lt _ (by omega)), List.getElem?_eq_getElem (Nat.mod_lt _ (by omega))⟩
    refine lc_range (n := 48) (fun j H' => Same H4 H' ∧ ∃ acc rsA, H' Dd = some (.lst acc) ∧ acc.length = j ∧ Ea H' isC acc rsA ∧ ∀ s ∈ rsA, s ∈ rows) ?_ ?_ ?_
    · exact ⟨new_ hD, [], [], upd_same, rfl, Ea.nil, fun s hs => by cases hs⟩
    · rintro j H6 hj ⟨s6, acc, rsA, hd, hl, he, hm⟩
      obtain ⟨x, r', hx, hr'⟩ := hkey j
      refine ⟨rfl, ?_⟩
      dsimp only [tYes]
      rw [if_pos rfl]
      have hx' : atI refs (((0 : Int) + (j : Int)) % (refs.length : Int)) = some x := by
        rw [hl3, Int.zero_add, ← Int.natCast_emod]
        exact atI_nat hx
      refine ⟨_, rfl, _, rfl, .inl ⟨_, rfl, _, rfl, R, refs, rfl, .inl (SqL.of (s6 _ _ hR4)), _, _, rfl, rfl, by omega, R, refs, _, _, rfl, rfl, SqL.of (s6 _ _ hR4), hx', acc, hd, ?_, ?_⟩⟩
      · rw [hl]
        exact Nat.lt_of_lt_of_le hj (by decide)
      obtain ⟨c, rfl, hc⟩ := hE4.2 _ _ _ hx hr'
      refine ⟨fun c o z => by rw [upd_ne (ne_of_none z hD)]; exact s6 _ _ z, acc ++ [.ref c], rsA ++ [r'], upd_same, by rw [List.length_append, hl]; rfl, Ea.push (he.imp fun c r q => TupOf.lst (f := id) q hd) (TupOf.lst (f := id) (s6 _ _ hc) hd), fun s hs => ?_⟩
      rcases List.mem_append.mp hs with hs | hs
      · exact hm s hs
      · cases List.mem_singleton.mp hs
        exact List.mem_of_getElem? hr'
    rintro H6 ⟨s6, acc, rsA, hd, hl, he, hm⟩
    have la : rsA.length = 48 := by rw [← he.1, hl]
    have fine48 : Fine rsA starts k := ⟨by omega, by omega, fun r hr => rowOk_mono (fine.ok r (hm r hr)) (by omega), fun H r hr => fine.cr H r (hm r hr), fine.root, fun x hx => below_mono (fine.st x hx) (by omega), fine.cs⟩
    refine ⟨_, rfl, _, rfl, fun x dx nx ndx nex => mk_rule nx ndx (.inl hd) (he.imp fun c r q => .inl q) (.inl (s6 _ _ hS4)) fine48 fun H7 s7 r7 => ⟨rfl, ?_⟩⟩
    have r7' := r7
    obtain ⟨dx7, R7, S7, refs7, h7, _⟩ := id r7
    refine ⟨x, dx7, _, rfl, h7, x, _, k, rfl, r7', rsA.length, rfl, by omega, rfl, _, rfl, ?_⟩
    rw [la]
    refine iteNS rfl ?_
    have q7 := s6.trans s7
    refine ⟨_, rfl, _, rfl, fun y dy ny ndy ney => mk_rule ny ndy (.inl (q7 _ _ hR4)) (hE4.imp fun c r q => .inl (q7 _ _ q)) (.inl (q7 _ _ hS4)) fine fun H8 s8 r8 => ⟨rfl, ?_⟩⟩
    obtain ⟨dx8, R8, S8, refs8, h8, _⟩ := r8
    refine ⟨y, C, dx8, _, _, rfl, h8, T.cl, T.nM, rf_marks _ _ _, _, rfl, rfl, _, rfl, iteNS rfl ?_⟩
    have q8 := q7.trans s8
    obtain ⟨s0, hs0⟩ : ∃ s0, starts[0]? = some s0 := ⟨_, List.getElem?_eq_getElem (by omega)⟩
    have m0 := List.mem_of_getElem? hs0
    refine ⟨_, rfl, _, rfl, S, starts, 0, s0, rfl, rfl, SqL.of (q8 _ _ hS4), atI_nat (j := 0) hs0, by show 1 ≤ sizeLine; decide, fun u hu => ?_⟩
    have su := new_ (o := .lst [s0]) hu
    refine ⟨u, 16, [s0], rfl, rfl, upd_same, by decide, by decide, by show 1 * 16 ≤ sizeLine; decide, fun v hv => ?_⟩
    have sv := new_ (o := .lst (List.replicate (16 : Int).toNat [s0]).flatten) hv
    refine ⟨v, _, rfl, .inl ⟨SqL.of upd_same, fun z hz => ?_⟩⟩
    have sz := new_ (o := .tup (List.replicate (16 : Int).toNat [s0]).flatten) hz
    have q9 := ((q8.trans su).trans sv).trans sz
    have fine16 : Fine rows (List.replicate (16 : Int).toNat [s0]).flatten 4 := by
      have e : (List.replicate (16 : Int).toNat [s0]).flatten = [s0, s0, s0, s0, s0, s0, s0, s0, s0, s0, s0, s0, s0, s0, s0, s0] := rfl
      have mm : ∀ x ∈ (List.replicate (16 : Int).toNat [s0]).flatten, x = s0 := by
        rw [e]
        intro x hx
        simpa using hx
      exact ⟨o1, o48, fine.ok, fine.cr, by rw [e]; exact .r4, fun x hx => by rw [mm x hx]; exact fine.st _ m0, fun H x hx => by rw [mm x hx]; exact fine.cs H _ m0⟩
    refine fun y2 dy2 ny2 ndy2 ney2 => mk_rule ny2 ndy2 (.inl (q9 _ _ hR4)) (hE4.imp fun c r q => .inl (q9 _ _ q)) (.inr upd_same) fine16 fun H10 s10 r10 => ⟨rfl, ?_⟩
    obtain ⟨dx10, R10, S10, refs10, h10, _⟩ := id r10
    refine ⟨y2, dx10, _, rfl, h10, y2, _, 4, rfl, r10, rows.length, rfl, by omega, _, rfl, R, refs, rfl, .inl (SqL.of (s10 _ _ (q9 _ _ hR4))), rfl, ?_⟩
    rw [hl3]
    rw [decide_eq_true rfl]
    exact kk _
end
end PA

set_option maxHeartbeats 8000000
namespace PA
open PySem L2 RZ
theorem kit_self {K : PySem.W.Frag} {C : Addr} : PySem.W.kitOne K (.ref C) (.ref C) = some true := by
  unfold PySem.W.kitOne
  rw [if_pos (by simp)]
theorem kit_2 {K : PySem.W.Frag} {C D : Addr} (h1 : (Value.ref D == Value.ref C) = false) (h2 : PySem.W.isClsIn K C = true) (h3 : PySem.W.typeIn K (.ref C) = some (.type "type")) (h4 : PySem.W.subIn K (.ref D) (.ref C) = some false) : PySem.W.kitOne K (.ref D) (.ref C) = some false := by
  have e2 : ((PySem.W.clsIn K C).isSome && PySem.W.typeIn K (.ref C) == some (.type "type")) = true := by
    have h2' : (PySem.W.clsIn K C).isSome = true := h2
    rw [h2', h3] <;> rfl
  unfold PySem.W.kitOne
  rw [h1, if_neg (by simp)]
  show (if ((PySem.W.clsIn K C).isSome && PySem.W.typeIn K (.ref C) == some (.type "type")) = true then PySem.W.subIn K (.ref D) (.ref C) else none) = some false
  rw [if_pos e2]
  exact h4
theorem exm_2 {K : PySem.W.Frag} {S P : Addr} (h1 : PySem.W.subIn K (.ref P) (.type "BaseException") = some true) (h2 : PySem.W.isClsIn K P = true) (h3 : PySem.W.typeIn K (.ref P) = some (.type "type")) (h4 : PySem.W.subIn K (.ref S) (.ref P) = some true) :
    PySem.W.exmOne K (.ref S) (.ref P) = some true := by
  have e2 : ((PySem.W.clsIn K P).isSome && PySem.W.typeIn K (.ref P) == some (.type "type")) = true := by
    have h2' : (PySem.W.clsIn K P).isSome = true := h2
    rw [h2', h3] <;> rfl
  unfold PySem.W.exmOne
  rw [h1, if_pos (by simp)]
  show (if ((PySem.W.clsIn K P).isSome && PySem.W.typeIn K (.ref P) == some (.type "type")) = true then PySem.W.subIn K (.ref S) (.ref P) else none) = some true
  rw [if_pos e2]
  exact h4
theorem kit_cls {K : PySem.W.Frag} {C : Addr} {t : String} (h2 : PySem.W.isClsIn K C = true) (h3 : PySem.W.typeIn K (.ref C) = some (.type "type")) (h4 : PySem.W.subIn K (.type t) (.ref C) = some false) : PySem.W.kitOne K (.type t) (.ref C) = some false := by
  have e2 : ((PySem.W.clsIn K C).isSome && PySem.W.typeIn K (.ref C) == some (.type "type")) = true := by
    have h2' : (PySem.W.clsIn K C).isSome = true := h2
    rw [h2', h3] <;> rfl
  unfold PySem.W.kitOne
  rw [if_neg (by simp)]
  show (if ((PySem.W.clsIn K C).isSome && PySem.W.typeIn K (.ref C) == some (.type "type")) = true then PySem.W.subIn K (.type t) (.ref C) else none) = some false
  rw [if_pos e2]
  exact h4
theorem bI2_of {K : PySem.W.Frag} {f dd : Addr} {fd : FuncData} (F : FunI K f fd dd) : Binds K fd ["self", "rows", "starts"] [] := by
  obtain ⟨ds, hv, hb⟩ := F.binds1 (ps := ["self", "rows", "starts"]) 3 1 (by simp) rfl (fun T kV doc pm an cdv ct us its h1 h2 => match us, h1, its, h2 with | [_, _, _], _, [_], _ => ⟨_, rfl, rfl⟩)
  cases hv
  exact hb
theorem kit_ve {K : PySem.W.Frag} {C : Addr} (h : PySem.W.subIn K (.ref C) (.type "ValueError") = some true) : PySem.W.kitOne K (.ref C) (.type "ValueError") = some true := by
  unfold PySem.W.kitOne
  rw [if_neg (by simp)]
  show (if PySem.W.kitMeta "ValueError" = true then PySem.W.subIn K (.ref C) (.type "ValueError") else none) = some true
  rw [if_pos (by decide +kernel)]
  exact h
theorem all_mk {l : PySem.W.OpenLaw} {w : World} {K : PySem.W.Frag} {h : Heap} {mg : Str → Option Value} {fa C TT DD gCI DM gLen X P_ c1 c2 c3 c4 gisInt gbelow gisRow gcheck gdraw gstart gpick gtable ghanded grefused gfault gLaw : Addr} (X_ : K.In h) (G : h.Ns mainGlobals mg) (hfa : mg "law" = some (.ref fa))
    {oT : Value} {odT : Option Addr} {mT : Nat} {slT : Array (Option Value)} {odD : Option Addr} {tkD : Tok} {mD : Nat} {slD : Array (Option Value)} {ocCI kVCI dcCI pmCI cdCI ctCI : Value} {odCI anCI : Option Addr} {slCI : Array (Option Value)} {x1 x2 x3 x4 y1 y2 y3 y4 : Tok} {nM_ : Nat} {tkM : Tok} {ocLen kVLen dcLen pmLen cdLen ctLen : Value} {odLen anLen : Option Addr} {slLen : Array (Option Value)} {ocisInt kVisInt dcisInt pmisInt cdisInt ctisInt : Value} {odisInt anisInt : Option Addr} {slisInt : Array (Option Value)} {ocbelow kVbelow dcbelow pmbelow cdbelow ctbelow : Value} {odbelow anbelow : Option Addr} {slbelow : Array (Option Value)} {ocisRow kVisRow dcisRow pmisRow cdisRow ctisRow : Value} {odisRow anisRow : Option Addr} {slisRow : Array (Option Value)} {occheck kVcheck dccheck pmcheck cdcheck ctcheck : Value} {odcheck ancheck : Option Addr} {slcheck : Array (Option Value)} {ocdraw kVdraw dcdraw pmdraw cddraw ctdraw : Value} {oddraw andraw : Option Addr} {sldraw : Array (Option Value)} {ocstart kVstart dcstart pmstart cdstart ctstart : Value} {odstart anstart : Option Addr} {slstart : Array (Option Value)} {ocpick kVpick dcpick pmpick cdpick ctpick : Value} {odpick anpick : Option Addr} {slpick : Array (Option Value)} {octable kVtable dctable pmtable cdtable cttable : Value} {odtable antable : Option Addr} {sltable : Array (Option Value)} {ochanded kVhanded dchanded pmhanded cdhanded cthanded : Value} {odhanded anhanded : Option Addr} {slhanded : Array (Option Value)} {ocrefused kVrefused dcrefused pmrefused cdrefused ctrefused : Value} {odrefused anrefused : Option Addr} {slrefused : Array (Option Value)} {ocfault kVfault dcfault pmfault cdfault ctfault : Value} {odfault anfault : Option Addr} {slfault : Array (Option Value)} {ocLaw kVLaw dcLaw pmLaw cdLaw ctLaw : Value} {odLaw anLaw : Option Addr} {slLaw : Array (Option Value)}
    (aC : PySem.W.nsIn K mainGlobals "Rule" = some (some (.ref C)))
    (pgC : PySem.W.plainGet K C Str.empty = true)
    (hdC : PySem.W.hasDictIn K C = true)
    (poC : PySem.W.plainOver K C = true)
    (saC : PySem.W.findIn K (.ref C) "__setattr__" = some (some (.builtin "object.__setattr__")))
    (kcC : PySem.W.keepIn K (.ref C) = true)
    (mkC : PySem.W.makesIn K C = true)
    (nCrows : PySem.W.findIn K (.ref C) "rows" = some none)
    (nCstarts : PySem.W.findIn K (.ref C) "starts" = some none)
    (nCmarks : PySem.W.findIn K (.ref C) "marks" = some none)
    (aCI : PySem.W.findIn K (.ref C) "__init__" = some (some (.ref gCI)))
    (lCI : K.lookup gCI = some ⟨ocCI, odCI, .func (PySem.W.fnOf "__init__" "Rule.__init__" (defArgs sInit) (defBody sInit) (defScope sInit) (.ref TT) kVCI dcCI pmCI anCI cdCI ctCI), slCI⟩)
    (cCI : PySem.W.codeIn K cdCI "Rule.__init__" = true)
    (kCI : PySem.W.keepIn K (.ref gCI) = true)
    (iCI : PySem.W.isFn K (.ref gCI) = true)
    (lT : K.lookup TT = some ⟨oT, odT, .seq #[.ref DD] mT, slT⟩)
    (lD : K.lookup DD = some ⟨.type "tuple", odD, .seq #[.int 0 tkD] mD, slD⟩)
    (aM : PySem.W.nsIn K mainGlobals "MARKS_OF_STARTS" = some (some (.ref DM)))
    (lM : K.lookup DM = some ⟨.type "dict", none, .dict #[⟨1, .int 1 x1, .int 1 y1⟩, ⟨4, .int 4 x2, .int 2 y2⟩, ⟨9, .int 9 x3, .int 3 y3⟩, ⟨16, .int 16 x4, .int 4 y4⟩] nM_, #[]⟩)
    (lw : (DM == sysModules) = false)
    (aMost : PySem.W.nsIn K mainGlobals "MOST_ROWS" = some (some (.int 48 tkM)))
    (aLen : PySem.W.findIn K (.ref C) "__len__" = some (some (.ref gLen)))
    (lLen : K.lookup gLen = some ⟨ocLen, odLen, .func (PySem.W.fnOf "__len__" "Rule.__len__" (defArgs sLen) (defBody sLen) (defScope sLen) .none kVLen dcLen pmLen anLen cdLen ctLen), slLen⟩)
    (cLen : PySem.W.codeIn K cdLen "Rule.__len__" = true)
    (kLen : PySem.W.keepIn K (.ref gLen) = true)
    (iLen : PySem.W.isFn K (.ref gLen) = true)
    (aX : PySem.W.nsIn K mainGlobals "InvalidRule" = some (some (.ref X)))
    (xX : PySem.W.excIn K X [.type "ValueError", .type "Exception", .type "BaseException", .type "object"] "ValueError.__new__" = true)
    (kX : PySem.W.keepIn K (.ref X) = true)
    (bX : PySem.W.subIn K (.ref X) (.type "BaseException") = some true)
    (tX : PySem.W.typeIn K (.ref X) = some (.type "type"))
    (isX : PySem.W.isClsIn K X = true)
    (aP_ : PySem.W.nsIn K mainGlobals "PairError" = some (some (.ref P_)))
    (bP_ : PySem.W.subIn K (.ref P_) (.type "BaseException") = some true)
    (tP_ : PySem.W.typeIn K (.ref P_) = some (.type "type"))
    (isP_ : PySem.W.isClsIn K P_ = true)
    (sXP_ : PySem.W.subIn K (.ref X) (.ref P_) = some true)
    (ac1 : PySem.W.nsIn K mainGlobals "InvalidClaim" = some (some (.ref c1)))
    (isc1 : PySem.W.isClsIn K c1 = true)
    (tc1 : PySem.W.typeIn K (.ref c1) = some (.type "type"))
    (neXc1 : (Value.ref X == Value.ref c1) = false)
    (sXc1 : PySem.W.subIn K (.ref X) (.ref c1) = some false)
    (ac2 : PySem.W.nsIn K mainGlobals "InvalidMix" = some (some (.ref c2)))
    (isc2 : PySem.W.isClsIn K c2 = true)
    (tc2 : PySem.W.typeIn K (.ref c2) = some (.type "type"))
    (neXc2 : (Value.ref X == Value.ref c2) = false)
    (sXc2 : PySem.W.subIn K (.ref X) (.ref c2) = some false)
    (ac3 : PySem.W.nsIn K mainGlobals "InvalidRows" = some (some (.ref c3)))
    (isc3 : PySem.W.isClsIn K c3 = true)
    (tc3 : PySem.W.typeIn K (.ref c3) = some (.type "type"))
    (neXc3 : (Value.ref X == Value.ref c3) = false)
    (sXc3 : PySem.W.subIn K (.ref X) (.ref c3) = some false)
    (ac4 : PySem.W.nsIn K mainGlobals "TooGreat" = some (some (.ref c4)))
    (isc4 : PySem.W.isClsIn K c4 = true)
    (tc4 : PySem.W.typeIn K (.ref c4) = some (.type "type"))
    (neXc4 : (Value.ref X == Value.ref c4) = false)
    (sXc4 : PySem.W.subIn K (.ref X) (.ref c4) = some false)
    (vX : PySem.W.subIn K (.ref X) (.type "ValueError") = some true)
    (e1 : PySem.W.findIn K (.ref X) "__getattribute__" = some (some (.builtin "BaseException.__getattribute__")))
    (e2 : PySem.W.findIn K (.ref X) "__getattr__" = some none)
    (e3 : PySem.W.hasDictIn K X = true)
    (e4 : PySem.W.findIn K (.ref X) "__class__" = some (some (.builtin "object.__class__")))
    (e5 : PySem.W.specialIn K (.builtin "object.__class__") "__get__" = some (some (.builtin "getset_descriptor.__get__")))
    (e6 : PySem.W.takesIn K (.builtin "object.__class__") = some true)
    (e7 : PySem.W.mroIn K X (.type "object") = some true)
    (zisinstance : PySem.W.nsIn K mainGlobals "isinstance" = some none)
    (zint : PySem.W.nsIn K mainGlobals "int" = some none)
    (zbool : PySem.W.nsIn K mainGlobals "bool" = some none)
    (zlist : PySem.W.nsIn K mainGlobals "list" = some none)
    (ztuple : PySem.W.nsIn K mainGlobals "tuple" = some none)
    (zlen : PySem.W.nsIn K mainGlobals "len" = some none)
    (zall : PySem.W.nsIn K mainGlobals "all" = some none)
    (zrange : PySem.W.nsIn K mainGlobals "range" = some none)
    (zValueError : PySem.W.nsIn K mainGlobals "ValueError" = some none)
    (aisInt : PySem.W.nsIn K mainGlobals "is_integer" = some (some (.ref gisInt)))
    (lisInt : K.lookup gisInt = some ⟨ocisInt, odisInt, .func (PySem.W.fnOf "is_integer" "is_integer" (defArgs sIsInt) (defBody sIsInt) (defScope sIsInt) .none kVisInt dcisInt pmisInt anisInt cdisInt ctisInt), slisInt⟩)
    (cisInt : PySem.W.codeIn K cdisInt "is_integer" = true)
    (kisInt : PySem.W.keepIn K (.ref gisInt) = true)
    (abelow : PySem.W.nsIn K mainGlobals "is_below" = some (some (.ref gbelow)))
    (lbelow : K.lookup gbelow = some ⟨ocbelow, odbelow, .func (PySem.W.fnOf "is_below" "is_below" (defArgs sBelow) (defBody sBelow) (defScope sBelow) .none kVbelow dcbelow pmbelow anbelow cdbelow ctbelow), slbelow⟩)
    (cbelow : PySem.W.codeIn K cdbelow "is_below" = true)
    (kbelow : PySem.W.keepIn K (.ref gbelow) = true)
    (aisRow : PySem.W.nsIn K mainGlobals "_is_row" = some (some (.ref gisRow)))
    (lisRow : K.lookup gisRow = some ⟨ocisRow, odisRow, .func (PySem.W.fnOf "_is_row" "_is_row" (defArgs sIsRow) (defBody sIsRow) (defScope sIsRow) .none kVisRow dcisRow pmisRow anisRow cdisRow ctisRow), slisRow⟩)
    (cisRow : PySem.W.codeIn K cdisRow "_is_row" = true)
    (kisRow : PySem.W.keepIn K (.ref gisRow) = true)
    (acheck : PySem.W.nsIn K mainGlobals "_check_table" = some (some (.ref gcheck)))
    (lcheck : K.lookup gcheck = some ⟨occheck, odcheck, .func (PySem.W.fnOf "_check_table" "_check_table" (defArgs sCheck) (defBody sCheck) (defScope sCheck) .none kVcheck dccheck pmcheck ancheck cdcheck ctcheck), slcheck⟩)
    (ccheck : PySem.W.codeIn K cdcheck "_check_table" = true)
    (kcheck : PySem.W.keepIn K (.ref gcheck) = true)
    (adraw : PySem.W.nsIn K mainGlobals "_law_draw" = some (some (.ref gdraw)))
    (ldraw : K.lookup gdraw = some ⟨ocdraw, oddraw, .func (PySem.W.fnOf "_law_draw" "_law_draw" (defArgs sDraw) (defBody sDraw) (defScope sDraw) .none kVdraw dcdraw pmdraw andraw cddraw ctdraw), sldraw⟩)
    (cdraw : PySem.W.codeIn K cddraw "_law_draw" = true)
    (kdraw : PySem.W.keepIn K (.ref gdraw) = true)
    (astart : PySem.W.nsIn K mainGlobals "_law_start" = some (some (.ref gstart)))
    (lstart : K.lookup gstart = some ⟨ocstart, odstart, .func (PySem.W.fnOf "_law_start" "_law_start" (defArgs sStart) (defBody sStart) (defScope sStart) .none kVstart dcstart pmstart anstart cdstart ctstart), slstart⟩)
    (cstart : PySem.W.codeIn K cdstart "_law_start" = true)
    (kstart : PySem.W.keepIn K (.ref gstart) = true)
    (apick : PySem.W.nsIn K mainGlobals "_law_pick" = some (some (.ref gpick)))
    (lpick : K.lookup gpick = some ⟨ocpick, odpick, .func (PySem.W.fnOf "_law_pick" "_law_pick" (defArgs sPick) (defBody sPick) (defScope sPick) .none kVpick dcpick pmpick anpick cdpick ctpick), slpick⟩)
    (cpick : PySem.W.codeIn K cdpick "_law_pick" = true)
    (kpick : PySem.W.keepIn K (.ref gpick) = true)
    (atable : PySem.W.nsIn K mainGlobals "_law_m_table" = some (some (.ref gtable)))
    (ltable : K.lookup gtable = some ⟨octable, odtable, .func (PySem.W.fnOf "_law_m_table" "_law_m_table" (defArgs sTable) (defBody sTable) (defScope sTable) .none kVtable dctable pmtable antable cdtable cttable), sltable⟩)
    (ctable : PySem.W.codeIn K cdtable "_law_m_table" = true)
    (ktable : PySem.W.keepIn K (.ref gtable) = true)
    (ahanded : PySem.W.nsIn K mainGlobals "_law_m_handed" = some (some (.ref ghanded)))
    (lhanded : K.lookup ghanded = some ⟨ochanded, odhanded, .func (PySem.W.fnOf "_law_m_handed" "_law_m_handed" (defArgs sHanded) (defBody sHanded) (defScope sHanded) .none kVhanded dchanded pmhanded anhanded cdhanded cthanded), slhanded⟩)
    (chanded : PySem.W.codeIn K cdhanded "_law_m_handed" = true)
    (khanded : PySem.W.keepIn K (.ref ghanded) = true)
    (arefused : PySem.W.nsIn K mainGlobals "_law_refused" = some (some (.ref grefused)))
    (lrefused : K.lookup grefused = some ⟨ocrefused, odrefused, .func (PySem.W.fnOf "_law_refused" "_law_refused" (defArgs sRefused) (defBody sRefused) (defScope sRefused) .none kVrefused dcrefused pmrefused anrefused cdrefused ctrefused), slrefused⟩)
    (crefused : PySem.W.codeIn K cdrefused "_law_refused" = true)
    (krefused : PySem.W.keepIn K (.ref grefused) = true)
    (afault : PySem.W.nsIn K mainGlobals "_law_fault" = some (some (.ref gfault)))
    (lfault : K.lookup gfault = some ⟨ocfault, odfault, .func (PySem.W.fnOf "_law_fault" "_law_fault" (defArgs sFault) (defBody sFault) (defScope sFault) .none kVfault dcfault pmfault anfault cdfault ctfault), slfault⟩)
    (cfault : PySem.W.codeIn K cdfault "_law_fault" = true)
    (kfault : PySem.W.keepIn K (.ref gfault) = true)
    (aLaw : PySem.W.nsIn K mainGlobals "law" = some (some (.ref gLaw)))
    (lLaw : K.lookup gLaw = some ⟨ocLaw, odLaw, .func (PySem.W.fnOf "law" "law" (defArgs sLaw) (defBody sLaw) (defScope sLaw) .none kVLaw dcLaw pmLaw anLaw cdLaw ctLaw), slLaw⟩)
    (cLaw : PySem.W.codeIn K cdLaw "law" = true)
    (kLaw : PySem.W.keepIn K (.ref gLaw) = true) :
    ∃ fd : FuncData, (∀ (s : Shared) (v : Value), BindsTo s fd ⟨[v], []⟩ [("_law_script", v)]) ∧ ∀ base : Heap, K.In base → base.Ns mainGlobals mg → FnOk l.prog w K mg base CX0 8 fa fd ["_law_script"] (spLaw K) := by
  have e := hfa.symm.trans (PySem.W.mg_of X_ G aLaw)
  cases e
  have FCI : FunI K gCI (PySem.W.fnOf "__init__" "Rule.__init__" (defArgs sInit) (defBody sInit) (defScope sInit) (.ref TT) kVCI dcCI pmCI anCI cdCI ctCI) DD := ⟨⟨_, _, _, _, _, _, _, _, _, _, rfl, lCI, cCI, .inr ⟨by simp, TT, _, [.ref DD], mT, rfl, lT, rfl, .cons rfl .nil⟩, .inl rfl⟩, kCI⟩
  have b1I := FCI.binds1 (ps := ["self", "rows", "starts"]) 2 0 (by simp) rfl (fun T kV doc pm an cdv ct us its h1 h2 => match us, h1, its, h2 with | [_, _], _, [_], _ => ⟨_, rfl, rfl⟩)
  have hdd : ∀ H, SqT K H DD [V.int 0] := fun H => .inr ⟨_, #[.int 0 tkD], mD, lD, rfl, rfl, (by show 1 ≤ sizeLine; decide), .cons ⟨tkD, rfl⟩ .nil⟩
  have FLen := fun_mk (st := sLen) lLen cLen kLen
  have bLen := FLen.binds (ps := ["self"]) fun _ _ _ _ _ _ us hl => match us, hl with | [_], _ => rfl
  have FisInt := fun_mk (st := sIsInt) lisInt cisInt kisInt
  have bisInt := FisInt.binds (ps := ["value"]) fun _ _ _ _ _ _ us hl => match us, hl with | [_], _ => rfl
  have Fbelow := fun_mk (st := sBelow) lbelow cbelow kbelow
  have bbelow := Fbelow.binds (ps := ["value", "count"]) fun _ _ _ _ _ _ us hl => match us, hl with | [_, _], _ => rfl
  have FisRow := fun_mk (st := sIsRow) lisRow cisRow kisRow
  have bisRow := FisRow.binds (ps := ["row", "count"]) fun _ _ _ _ _ _ us hl => match us, hl with | [_, _], _ => rfl
  have Fcheck := fun_mk (st := sCheck) lcheck ccheck kcheck
  have bcheck := Fcheck.binds (ps := ["rows", "starts"]) fun _ _ _ _ _ _ us hl => match us, hl with | [_, _], _ => rfl
  have Fdraw := fun_mk (st := sDraw) ldraw cdraw kdraw
  have bdraw := Fdraw.binds (ps := ["_law_stream", "_law_many"]) fun _ _ _ _ _ _ us hl => match us, hl with | [_, _], _ => rfl
  have Fstart := fun_mk (st := sStart) lstart cstart kstart
  have bstart := Fstart.binds (ps := ["_law_script"]) fun _ _ _ _ _ _ us hl => match us, hl with | [_], _ => rfl
  have Fpick := fun_mk (st := sPick) lpick cpick kpick
  have bpick := Fpick.binds (ps := ["_law_stream", "_law_some"]) fun _ _ _ _ _ _ us hl => match us, hl with | [_, _], _ => rfl
  have Ftable := fun_mk (st := sTable) ltable ctable ktable
  have btable := Ftable.binds (ps := ["_law_stream", "_law_most", "_law_marks"]) fun _ _ _ _ _ _ us hl => match us, hl with | [_, _, _], _ => rfl
  have Fhanded := fun_mk (st := sHanded) lhanded chanded khanded
  have bhanded := Fhanded.binds (ps := ["_law_stream", "_law_rows"]) fun _ _ _ _ _ _ us hl => match us, hl with | [_, _], _ => rfl
  have Frefused := fun_mk (st := sRefused) lrefused crefused krefused
  have brefused := Frefused.binds (ps := ["_law_rows", "_law_starts"]) fun _ _ _ _ _ _ us hl => match us, hl with | [_, _], _ => rfl
  have Ffault := fun_mk (st := sFault) lfault cfault kfault
  have bfault := Ffault.binds (ps := ["_law_stream", "_law_rows", "_law_starts"]) fun _ _ _ _ _ _ us hl => match us, hl with | [_, _, _], _ => rfl
  have PR : Prog K mg C X P_ gCI DD gisInt gbelow gisRow gcheck c1 c2 c3 c4 gLen gdraw gstart gpick gtable ghanded grefused gfault (PySem.W.fnOf "__init__" "Rule.__init__" (defArgs sInit) (defBody sInit) (defScope sInit) (.ref TT) kVCI dcCI pmCI anCI cdCI ctCI) (PySem.W.fnOf "is_integer" "is_integer" (defArgs sIsInt) (defBody sIsInt) (defScope sIsInt) .none kVisInt dcisInt pmisInt anisInt cdisInt ctisInt) (PySem.W.fnOf "is_below" "is_below" (defArgs sBelow) (defBody sBelow) (defScope sBelow) .none kVbelow dcbelow pmbelow anbelow cdbelow ctbelow) (PySem.W.fnOf "_is_row" "_is_row" (defArgs sIsRow) (defBody sIsRow) (defScope sIsRow) .none kVisRow dcisRow pmisRow anisRow cdisRow ctisRow) (PySem.W.fnOf "_check_table" "_check_table" (defArgs sCheck) (defBody sCheck) (defScope sCheck) .none kVcheck dccheck pmcheck ancheck cdcheck ctcheck) (PySem.W.fnOf "__len__" "Rule.__len__" (defArgs sLen) (defBody sLen) (defScope sLen) .none kVLen dcLen pmLen anLen cdLen ctLen) (PySem.W.fnOf "_law_draw" "_law_draw" (defArgs sDraw) (defBody sDraw) (defScope sDraw) .none kVdraw dcdraw pmdraw andraw cddraw ctdraw) (PySem.W.fnOf "_law_start" "_law_start" (defArgs sStart) (defBody sStart) (defScope sStart) .none kVstart dcstart pmstart anstart cdstart ctstart) (PySem.W.fnOf "_law_pick" "_law_pick" (defArgs sPick) (defBody sPick) (defScope sPick) .none kVpick dcpick pmpick anpick cdpick ctpick) (PySem.W.fnOf "_law_m_table" "_law_m_table" (defArgs sTable) (defBody sTable) (defScope sTable) .none kVtable dctable pmtable antable cdtable cttable) (PySem.W.fnOf "_law_m_handed" "_law_m_handed" (defArgs sHanded) (defBody sHanded) (defScope sHanded) .none kVhanded dchanded pmhanded anhanded cdhanded cthanded) (PySem.W.fnOf "_law_refused" "_law_refused" (defArgs sRefused) (defBody sRefused) (defScope sRefused) .none kVrefused dcrefused pmrefused anrefused cdrefused ctrefused) (PySem.W.fnOf "_law_fault" "_law_fault" (defArgs sFault) (defBody sFault) (defScope sFault) .none kVfault dcfault pmfault anfault cdfault ctfault) := ⟨⟨⟨⟨pgC, hdC, poC, saC⟩, nCrows, nCstarts, nCmarks, PySem.W.mg_of X_ G aC, PySem.W.mg_none_of X_ G zisinstance, PySem.W.mg_none_of X_ G zint, PySem.W.mg_none_of X_ G zbool, PySem.W.mg_none_of X_ G zlist, PySem.W.mg_none_of X_ G ztuple, PySem.W.mg_none_of X_ G zlen, PySem.W.mg_none_of X_ G zall, PySem.W.mg_none_of X_ G zrange, ⟨tkM, PySem.W.mg_of X_ G aMost⟩, ⟨DM, PySem.W.mg_of X_ G aM, ⟨⟨x1, x2, x3, x4, y1, y2, y3, y4, nM_, lM⟩, lw⟩⟩⟩, ⟨xX, PySem.W.mg_of X_ G aX, kX, bX, tX, PySem.W.mg_of X_ G aP_, exm_2 bP_ isP_ tP_ sXP_⟩, FCI, ⟨mkC, aCI, iCI, kcC⟩, bI2_of FCI, ⟨FisInt, bisInt, PySem.W.mg_of X_ G aisInt⟩, ⟨Fbelow, bbelow, PySem.W.mg_of X_ G abelow⟩, ⟨FisRow, bisRow, PySem.W.mg_of X_ G aisRow⟩, ⟨Fcheck, bcheck, PySem.W.mg_of X_ G acheck⟩⟩, ⟨⟨e1, e2, bX, e3, e4, e5, e6, e7⟩, PySem.W.mg_none_of X_ G zValueError, kit_ve vX, kit_self, PySem.W.mg_of X_ G ac1, PySem.W.mg_of X_ G ac2, PySem.W.mg_of X_ G ac3, PySem.W.mg_of X_ G ac4, kitAny_cons (b := false) (kit_2 neXc1 isc1 tc1 sXc1) (fun _ => kitAny_cons (b := false) (kit_2 neXc2 isc2 tc2 sXc2) (fun _ => kitAny_cons (b := false) (kit_2 neXc3 isc3 tc3 sXc3) (fun _ => kitAny_cons (b := false) (kit_2 neXc4 isc4 tc4 sXc4) (fun _ => kitAny_nil) (fun e => by cases e)) (fun e => by cases e)) (fun e => by cases e)) (fun e => by cases e)⟩, FLen, bLen, ⟨aLen, iLen, kLen⟩, ⟨Fdraw, bdraw, PySem.W.mg_of X_ G adraw⟩, ⟨Fstart, bstart, PySem.W.mg_of X_ G astart⟩, ⟨Fpick, bpick, PySem.W.mg_of X_ G apick⟩, ⟨Ftable, btable, PySem.W.mg_of X_ G atable⟩, ⟨Fhanded, bhanded, PySem.W.mg_of X_ G ahanded⟩, ⟨Frefused, brefused, PySem.W.mg_of X_ G arefused⟩, ⟨Ffault, bfault, PySem.W.mg_of X_ G afault⟩⟩
  exact ⟨PySem.W.fnOf "law" "law" (defArgs sLaw) (defBody sLaw) (defScope sLaw) .none kVLaw dcLaw pmLaw anLaw cdLaw ctLaw, fun s v => .of_eq rfl, fun base _ _ => ok_law (fun_mk (st := sLaw) lLaw cLaw kLaw) PR⟩
theorem walk_ {l : PySem.W.OpenLaw} {q : Program} {loose : List Str} {XP : (Str → Option Value) → Heap → Prop} {YP : World → Heap → Prop} {d : DefRec} {K : Params → PySem.W.Frag} (hn : l.most = some 63) (hdf : d.params.defaults = [])
    (hY : ∀ (w : World) (h : Heap), YP w h → (K w.params).In h)
    (F : ∀ (w : World) (mg : Str → Option Value) (fa : Addr) (h : Heap), (K w.params).In h → h.Ns mainGlobals mg → mg d.name = some (.ref fa) →
      ∃ fd : FuncData, (∀ (s : Shared) (u : Value), BindsTo s fd ⟨[u], []⟩ [("_law_script", u)]) ∧ ∀ base : Heap, (K w.params).In base → base.Ns mainGlobals mg → FnOk l.prog w (K w.params) mg base CX0 8 fa fd ["_law_script"] (spLaw (K w.params))) :
    PySem.W.WalkO q loose XP YP l.row.toRowW d [] (fun f vs => PySem.call f vs) :=
  L2.walk_of (n := 63) (k := 8) (x := "_law_script") (CX := fun _ => CX0) (sp := fun w => spLaw (K w.params)) hn (by decide) hdf ⟨rfl, by decide, by decide⟩ hY F (fun _ _ a ns hl _ hS => ⟨a, ns, rfl, hS, hl, fun _ => rfl⟩) fun _ _ _ _ _ z => z
end PA

open PySem PySem.W PyProof.Rows
set_option maxRecDepth 100000 in
set_option maxHeartbeats 0 in
theorem PySem.Challenge.cw_pairahead_k05_rules_refused_holds : PySem.Challenge.rw_pairahead_k05_rules_refused.Holds := by
  w_on; o_law; k_head; (case hw => w_witness2)
  k_fill
  refine PA.walk_ (l := PySem.Challenge.rw_pairahead_k05_rules_refused) rfl rfl (fun w h Y => PySem.W.kIn_of Y) ?F
  case F =>
    intro w mg fa h KX G hmg
    refine' PA.all_mk KX G hmg ?aC ?pgC ?hdC ?poC ?saC ?kcC ?mkC ?nCrows ?nCstarts ?nCmarks ?aCI ?lCI ?cCI ?kCI ?iCI ?lT ?lD ?aM ?lM ?lw ?aMost ?aLen ?lLen ?cLen ?kLen ?iLen ?aX ?xX ?kX ?bX ?tX ?isX ?aP_ ?bP_ ?tP_ ?isP_ ?sXP_ ?ac1 ?isc1 ?tc1 ?neXc1 ?sXc1 ?ac2 ?isc2 ?tc2 ?neXc2 ?sXc2 ?ac3 ?isc3 ?tc3 ?neXc3 ?sXc3 ?ac4 ?isc4 ?tc4 ?neXc4 ?sXc4 ?vX ?e1 ?e2 ?e3 ?e4 ?e5 ?e6 ?e7 ?zisinstance ?zint ?zbool ?zlist ?ztuple ?zlen ?zall ?zrange ?zValueError ?aisInt ?lisInt ?cisInt ?kisInt ?abelow ?lbelow ?cbelow ?kbelow ?aisRow ?lisRow ?cisRow ?kisRow ?acheck ?lcheck ?ccheck ?kcheck ?adraw ?ldraw ?cdraw ?kdraw ?astart ?lstart ?cstart ?kstart ?apick ?lpick ?cpick ?kpick ?atable ?ltable ?ctable ?ktable ?ahanded ?lhanded ?chanded ?khanded ?arefused ?lrefused ?crefused ?krefused ?afault ?lfault ?cfault ?kfault ?aLaw ?lLaw ?cLaw ?kLaw
    (case aC => k_is)
    (case pgC => k_is)
    (case hdC => k_is)
    (case poC => k_is)
    (case saC => k_is)
    (case kcC => k_is)
    (case mkC => k_is)
    (case nCrows => k_is)
    (case nCstarts => k_is)
    (case nCmarks => k_is)
    (case aCI => k_is)
    (case lCI => k_is)
    (case cCI => k_is)
    (case kCI => k_is)
    (case iCI => k_is)
    (case lT => k_is)
    (case lD => k_is)
    (case aM => k_is)
    (case lM => k_is)
    (case lw => first | rfl | decide | k_is)
    (case aMost => k_is)
    (case aLen => k_is)
    (case lLen => k_is)
    (case cLen => k_is)
    (case kLen => k_is)
    (case iLen => k_is)
    (case aX => k_is)
    (case xX => k_exc)
    (case kX => k_is)
    (case bX => k_is)
    (case tX => k_is)
    (case isX => k_is)
    (case aP_ => k_is)
    (case bP_ => k_is)
    (case tP_ => k_is)
    (case isP_ => k_is)
    (case sXP_ => first | rfl | k_is)
    (case ac1 => k_is)
    (case isc1 => k_is)
    (case tc1 => k_is)
    (case neXc1 => first | rfl | decide | k_is)
    (case sXc1 => first | rfl | k_is)
    (case ac2 => k_is)
    (case isc2 => k_is)
    (case tc2 => k_is)
    (case neXc2 => first | rfl | decide | k_is)
    (case sXc2 => first | rfl | k_is)
    (case ac3 => k_is)
    (case isc3 => k_is)
    (case tc3 => k_is)
    (case neXc3 => first | rfl | decide | k_is)
    (case sXc3 => first | rfl | k_is)
    (case ac4 => k_is)
    (case isc4 => k_is)
    (case tc4 => k_is)
    (case neXc4 => first | rfl | decide | k_is)
    (case sXc4 => first | rfl | k_is)
    (case vX => k_is)
    (case e1 => k_is)
    (case e2 => k_is)
    (case e3 => k_is)
    (case e4 => k_is)
    (case e5 => k_is)
    (case e6 => k_is)
    (case e7 => k_is)
    (case zisinstance => k_is)
    (case zint => k_is)
    (case zbool => k_is)
    (case zlist => k_is)
    (case ztuple => k_is)
    (case zlen => k_is)
    (case zall => k_is)
    (case zrange => k_is)
    (case zValueError => k_is)
    (case aisInt => k_is)
    (case lisInt => k_is)
    (case cisInt => k_is)
    (case kisInt => k_is)
    (case abelow => k_is)
    (case lbelow => k_is)
    (case cbelow => k_is)
    (case kbelow => k_is)
    (case aisRow => k_is)
    (case lisRow => k_is)
    (case cisRow => k_is)
    (case kisRow => k_is)
    (case acheck => k_is)
    (case lcheck => k_is)
    (case ccheck => k_is)
    (case kcheck => k_is)
    (case adraw => k_is)
    (case ldraw => k_is)
    (case cdraw => k_is)
    (case kdraw => k_is)
    (case astart => k_is)
    (case lstart => k_is)
    (case cstart => k_is)
    (case kstart => k_is)
    (case apick => k_is)
    (case lpick => k_is)
    (case cpick => k_is)
    (case kpick => k_is)
    (case atable => k_is)
    (case ltable => k_is)
    (case ctable => k_is)
    (case ktable => k_is)
    (case ahanded => k_is)
    (case lhanded => k_is)
    (case chanded => k_is)
    (case khanded => k_is)
    (case arefused => k_is)
    (case lrefused => k_is)
    (case crefused => k_is)
    (case krefused => k_is)
    (case afault => k_is)
    (case lfault => k_is)
    (case cfault => k_is)
    (case kfault => k_is)
    (case aLaw => k_is)
    (case lLaw => k_is)
    (case cLaw => k_is)
    (case kLaw => k_is)
#print axioms PySem.Challenge.cw_pairahead_k05_rules_refused_holds
