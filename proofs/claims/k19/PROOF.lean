import PyProof.Rows.All
import Wide.All
import OpenK.AllK
import Wide.FinOn
import HandS.ForMost
import HandS.IsInst
import HandS.Zip
import HandS.Wide
import HandS.Codes
import HandS.Evl
import HandS.Conv
import HandS.Defaults
import HandS.MakeKw
import HandS.Walk
import HandS.TupAny
import HandS.Words
import HandS.WordsList
import PySem.Challenge.RW_pairahead_k19_sequences_in_row_sets
import HandS.TupLe
set_option Elab.async false
set_option linter.all false
set_option maxRecDepth 100000
set_option maxHeartbeats 2000000
/-! what serves every row -/
namespace L2
open PySem PySem.Spec PyProof.Rows
theorem PI.or {X : Cx} {tg l : Expr} {w1 w2 : TI} (h1 : PI X tg l w1) (h2 : PI X tg l w2) : PI X tg l (fun σ H R => w1 σ H R ∨ w2 σ H R) :=
  ⟨fun pins s σ H R I h => h.elim (h1.run pins s σ H R I) (h2.run pins s σ H R I)⟩
/-- a list or a tuple -/
def Sq (K : PySem.W.Frag) (H : Hp) (a : Addr) (xs : List V) : Prop := SqL K H a xs ∨ SqT K H a xs
theorem SqT.up {K : PySem.W.Frag} {H H' : Hp} {a : Addr} {xs : List V} (h : SqT K H a xs) (e : Same H H') : SqT K H' a xs :=
  h.elim (fun h => .inl (h.elim (fun h => .inl (e _ _ h)) fun ⟨o, h⟩ => .inr ⟨o, e _ _ h⟩)) fun h => .inr h
theorem SqL.up {K : PySem.W.Frag} {H H' : Hp} {a : Addr} {xs : List V} (h : SqL K H a xs) (e : Same H H') : SqL K H' a xs :=
  h.elim (fun h => .inl (h.elim (fun h => .inl (e _ _ h)) fun ⟨o, h⟩ => .inr ⟨o, e _ _ h⟩)) fun h => .inr h
theorem Sq.up {K : PySem.W.Frag} {H H' : Hp} {a : Addr} {xs : List V} (h : Sq K H a xs) (e : Same H H') : Sq K H' a xs := h.imp (fun h => SqL.up h e) fun h => SqT.up h e
theorem walk_l {K : PySem.W.Frag} {a : Addr} {xs : List V} : Walk (Itl K a) xs.length (fun H => SqL K H a xs) (YAt xs) :=
  ⟨fun i H hi q => ⟨xs, xs[i], q, by simp [hi]⟩, fun H q => ⟨xs, q, Nat.le_refl _⟩, fun i H x H' hi q y => ⟨y.1, y.2 xs q⟩⟩
theorem walk_t {K : PySem.W.Frag} {a : Addr} {xs : List V} : Walk (Itt K a) xs.length (fun H => SqT K H a xs) (YAt xs) :=
  ⟨fun i H hi q => ⟨xs, xs[i], q, by simp [hi]⟩, fun H q => ⟨xs, q, Nat.le_refl _⟩, fun i H x H' hi q y => ⟨y.1, y.2 xs q⟩⟩
/-- how a value that is a list or a tuple of xs stands, as one of the two -/
inductive Kind where
  | l | t
def Sk (K : PySem.W.Frag) (k : Kind) (H : Hp) (a : Addr) (xs : List V) : Prop := match k with
  | .l => SqL K H a xs
  | .t => SqT K H a xs
theorem Sk.sq {K : PySem.W.Frag} {k : Kind} {H : Hp} {a : Addr} {xs : List V} (h : Sk K k H a xs) : Sq K H a xs := by
  cases k
  · exact .inl h
  · exact .inr h
theorem Sk.up {K : PySem.W.Frag} {k : Kind} {H H' : Hp} {a : Addr} {xs : List V} (h : Sk K k H a xs) (e : Same H H') : Sk K k H' a xs := by
  cases k
  · exact SqL.up h e
  · exact SqT.up h e
theorem Sq.kind {K : PySem.W.Frag} {H : Hp} {a : Addr} {xs : List V} (h : Sq K H a xs) : ∃ k, Sk K k H a xs := h.elim (fun h => ⟨.l, h⟩) fun h => ⟨.t, h⟩
def ItSq (K : PySem.W.Frag) (k : Kind) (a : Addr) : It := match k with
  | .l => Itl K a
  | .t => Itt K a
theorem walk_k {K : PySem.W.Frag} {k : Kind} {a : Addr} {xs : List V} : Walk (ItSq K k a) xs.length (fun H => Sk K k H a xs) (YAt xs) := by
  cases k
  · exact walk_l
  · exact walk_t
/-- a walk over a list or a tuple -/
def iSq (K : PySem.W.Frag) (tl : TE) : TI := fun σ H R => ∃ k : Kind, tl σ H fun x H1 => ∃ a, x = .ref a ∧ (∃ xs, Sk K k H1 a xs) ∧ R (ItSq K k a) H1
theorem pi_sq {X : Cx} {tg l : Expr} {tl : TE} (hl : PE X l tl) : PI X tg l (iSq X.K tl) := by
  refine ⟨fun pins s σ H R I ⟨k, h⟩ => ?_⟩
  cases k
  · exact (pi_list hl).run pins s σ H R I h
  · exact (pi_tup hl).run pins s σ H R I h
/-! ### comprehensions -/
section
variable {J : It} {n : Nat} {G : Hp → Prop} {xs : List V} {g : TG} {tt : TT} {te : TE} {vs : List Nat} {σ : L2.St} {H1 : Hp} {D : Addr} {Qd : Hp → Prop}
theorem new_ {H : Hp} {p : Addr} {o : HO} (hp : H p = none) : Same H (upd H p o) := fun b u e => by
  rw [upd_ne (ne_of_none e hp)]
  exact e
/-- all but D is as it was -/
def But (D : Addr) (H H' : Hp) : Prop := ∀ c o, c ≠ D → H c = some o → H' c = some o
/-- the values are made one after another, the heap of before stays -/
theorem lc_acc (w : Walk J n G (YAt xs)) (hn : n ≤ sizeLine) (hD : H1 D = none) (hG : ∀ H, Same H1 H → G H) (A : Nat → List V → Hp → Prop) (hl : ∀ i acc H, A i acc H → acc.length ≤ i) (A0 : A 0 [] (upd H1 D (.lst [])))
    (hs : ∀ (i : Nat) (x : V) (H : Hp) (acc : List V) (Φ : V → Hp → Prop) (Ψ : Hp → Prop), i < n → xs[i]? = some x → Same H1 H → H D = some (.lst acc) → A i acc H →
      (∀ y H4, Same H H4 → H4 D = some (.lst acc) → (∀ H5, H5 D = some (.lst (acc ++ [y])) → But D H4 H5 → But D H5 H4 → A (i + 1) (acc ++ [y]) H5) → Φ y H4) →
      g x (wipe σ vs) H fun σ2 H2 => wipe σ2 vs = wipe σ vs ∧ tt σ2 H2 fun b H3 => if b = true then te σ2 H3 Φ else Ψ H3)
    (hd : ∀ H acc, Same H1 H → H D = some (.lst acc) → A n acc H → Qd H) :
    ∃ W : Nat → Nat → Hp → Prop, (∃ m, W 0 m (upd H1 D (.lst []))) ∧ ∀ i m H, W i m H →
      (J.stop i H ∧ Qd H) ∨ (J.go i H ∧ ∃ Nx : Hp → Prop, (∀ H', Nx H' → ∃ m', m' < m ∧ W (i + 1) m' H') ∧ ∀ x H', J.yld i H x H' → g x (wipe σ vs) H' fun σ2 H2 => wipe σ2 vs = wipe σ vs ∧ tt σ2 H2 fun b H3 =>
        if b = true then te σ2 H3 fun y H4 => ∃ acc, H4 D = some (.lst acc) ∧ acc.length < sizeLine ∧ Nx (upd H4 D (.lst (acc ++ [y]))) else Nx H3) := by
  refine lc_it w (fun i H => Same H1 H ∧ ∃ acc, H D = some (.lst acc) ∧ A i acc H) ⟨new_ hD, [], upd_same, A0⟩ (fun i H _ p => hG H p.1) (fun i x H H' hi p y => ?_) fun H p => ?_
  · obtain ⟨rfl, hx⟩ := y
    obtain ⟨sm, acc, hd', ha⟩ := p
    refine hs i x _ acc _ _ hi hx sm hd' ha fun y H4 s4 d4 k => ⟨acc, d4, Nat.lt_of_lt_of_le (Nat.lt_of_le_of_lt (hl _ _ _ ha) hi) hn, fun c o e => ?_, acc ++ [y], upd_same, k _ upd_same (fun c o cd e => ?_) fun c o cd e => ?_⟩
    · rw [upd_ne (ne_of_none e hD)]
      exact s4 _ _ (sm _ _ e)
    · rw [upd_ne cd]
      exact e
    · rw [upd_ne cd] at e
      exact e
  · obtain ⟨sm, acc, hd', ha⟩ := p
    exact hd H acc sm hd' ha
/-- values that do not hang on the heap -/
theorem lc_same (w : Walk J n G (YAt xs)) (hn : n ≤ sizeLine) (hD : H1 D = none) (hG : ∀ H, Same H1 H → G H) (ys : List V) (hy : ys.length = n)
    (hs : ∀ (i : Nat) (x y : V) (H : Hp) (Φ : V → Hp → Prop) (Ψ : Hp → Prop), xs[i]? = some x → ys[i]? = some y → Same H1 H → (∀ H4, Same H H4 → Φ y H4) →
      g x (wipe σ vs) H fun σ2 H2 => wipe σ2 vs = wipe σ vs ∧ tt σ2 H2 fun b H3 => if b = true then te σ2 H3 Φ else Ψ H3)
    (hd : ∀ H, Same H1 H → H D = some (.lst ys) → Qd H) :
    ∃ W : Nat → Nat → Hp → Prop, (∃ m, W 0 m (upd H1 D (.lst []))) ∧ ∀ i m H, W i m H →
      (J.stop i H ∧ Qd H) ∨ (J.go i H ∧ ∃ Nx : Hp → Prop, (∀ H', Nx H' → ∃ m', m' < m ∧ W (i + 1) m' H') ∧ ∀ x H', J.yld i H x H' → g x (wipe σ vs) H' fun σ2 H2 => wipe σ2 vs = wipe σ vs ∧ tt σ2 H2 fun b H3 =>
        if b = true then te σ2 H3 fun y H4 => ∃ acc, H4 D = some (.lst acc) ∧ acc.length < sizeLine ∧ Nx (upd H4 D (.lst (acc ++ [y]))) else Nx H3) := by
  refine lc_acc w hn hD hG (fun i acc _ => acc = ys.take i) (fun i acc H e => by rw [e, List.length_take]; omega) (by rw [List.take_zero]) (fun i x H acc Φ Ψ hi hx sm hd' ha k => ?_) fun H acc sm hd' ha => hd H sm ?_
  · have hi' : i < ys.length := by omega
    have ey : ys[i]? = some ys[i] := List.getElem?_eq_getElem hi'
    refine hs i x ys[i] H Φ Ψ hx ey sm fun H4 s4 => k _ H4 s4 (s4 _ _ hd') fun H5 _ _ _ => ?_
    rw [ha, List.take_add_one, ey]
    rfl
  · rw [hd', ha, ← hy, List.take_length]
end
/-! ### x in an instance with the own method -/
section
variable {X : Cx} {CX : CXT} {k : Nat} {C f : Addr} {fd : FuncData} {ps : List Str} {sp : Sp} {E : XK}
theorem op_inOwn (hs : PySem.W.findIn X.K (.ref C) "__contains__" = some (some (.ref f))) (hf : PySem.W.isFn X.K (.ref f) = true) (F : FnOk X.prog X.w X.K X.mg X.base CX k f fd ps sp) (hr : Room k X.A) (hb : Binds X.K fd ps []) (hx : Passes CX X E) :
    OpR X (compareOp .In) (fun x y H Q => ∃ a dx fs, y = .ref a ∧ H a = some (.ins C dx fs) ∧ sp [.ref a, x] H (fun v H' => ∃ b, v = .bl b ∧ Q (.bl b) H') E) := by
  intro pins s σ H x y v u Q I rx ry h
  obtain ⟨a, dx, fs, rfl, ha, q⟩ := h
  cases ry
  obtain ⟨mA, J, _⟩ := ins_get I.hok ha
  obtain ⟨od, J, _⟩ := J.look
  obtain ⟨m, hF⟩ := I.fr
  refine PySem.W.in_K hF I.ok.mod.kin J hs hf ?_
  refine wpAny_mono (run_fn (us := [.ref a, v]) (vs := [.ref a, x]) F hr hb .nil hx I (.cons rfl (.cons rx .nil)) q) (fun w s' z => ?_) fun _ _ z => z
  obtain ⟨v', H', I', rv, b, rfl, q'⟩ := z
  cases rv
  exact wpAny_truthy_bool ⟨.bl b, H', I', rfl, q'⟩
theorem op_notInOwn (hs : PySem.W.findIn X.K (.ref C) "__contains__" = some (some (.ref f))) (hf : PySem.W.isFn X.K (.ref f) = true) (F : FnOk X.prog X.w X.K X.mg X.base CX k f fd ps sp) (hr : Room k X.A) (hb : Binds X.K fd ps []) (hx : Passes CX X E) :
    OpR X (compareOp .NotIn) (fun x y H Q => ∃ a dx fs, y = .ref a ∧ H a = some (.ins C dx fs) ∧ sp [.ref a, x] H (fun v H' => ∃ b, v = .bl b ∧ Q (.bl (!b)) H') E) := by
  intro pins s σ H x y v u Q I rx ry h
  obtain ⟨a, dx, fs, rfl, ha, q⟩ := h
  cases ry
  obtain ⟨mA, J, _⟩ := ins_get I.hok ha
  obtain ⟨od, J, _⟩ := J.look
  obtain ⟨m, hF⟩ := I.fr
  refine PySem.W.notIn_K hF I.ok.mod.kin J hs hf ?_
  refine wpAny_mono (run_fn (us := [.ref a, v]) (vs := [.ref a, x]) F hr hb .nil hx I (.cons rfl (.cons rx .nil)) q) (fun w s' z => ?_) fun _ _ z => z
  obtain ⟨v', H', I', rv, b, rfl, q'⟩ := z
  cases rv
  exact wpAny_truthy_bool ⟨.bl (!b), H', I', rfl, q'⟩
end
end L2

set_option maxHeartbeats 2000000
namespace L2
open PySem PySem.Spec PyProof.Rows RZ
/-! ### zip, slices of lists and tuples -/
theorem walk_zipT {K : PySem.W.Frag} {a b : Addr} {xs ys : List V} {n : Nat} (hn : n = min xs.length ys.length) : Walk (ItzT K a b) n (fun H => SqT K H a xs ∧ SqT K H b ys) (YPair (fun i => xs[i]?) (fun i => ys[i]?)) :=
  ⟨fun i H hi q => ⟨xs, ys, xs[i]'(by omega), ys[i]'(by omega), q.1, q.2, List.getElem?_eq_getElem _, List.getElem?_eq_getElem _⟩,
    fun H q => ⟨xs, ys, q.1, q.2, by omega⟩, fun i H v H' hi q y => by
      obtain ⟨T, x, y', rfl, hT, rfl, f1, f2⟩ := y
      exact ⟨T, x, y', rfl, hT, rfl, f1 xs q.1, f2 ys q.2⟩⟩
def ItZk (K : PySem.W.Frag) (k : Kind) (a b : Addr) : It := match k with
  | .l => Itz K a b
  | .t => ItzT K a b
theorem walk_zk {K : PySem.W.Frag} {k : Kind} {a b : Addr} {xs ys : List V} {n : Nat} (hn : n = min xs.length ys.length) : Walk (ItZk K k a b) n (fun H => Sk K k H a xs ∧ Sk K k H b ys) (YPair (fun i => xs[i]?) (fun i => ys[i]?)) := by
  cases k
  · exact walk_zip hn
  · exact walk_zipT hn
theorem zip_k {K : PySem.W.Frag} {k : Kind} {H : Hp} {a b : Addr} {xs ys : List V} {R : It → Hp → Prop} (ha : Sk K k H a xs) (hb : Sk K k H b ys) (h : R (ItZk K k a b) H) :
    (SqL K H a xs ∧ SqL K H b ys ∧ R (Itz K a b) H) ∨ (SqT K H a xs ∧ SqT K H b ys ∧ R (ItzT K a b) H) := by
  cases k
  · exact .inl ⟨ha, hb, h⟩
  · exact .inr ⟨ha, hb, h⟩
theorem cut_all {xs : List V} {lo hi : Option Int} (h : HT.sIx xs.length 0 lo = 0 ∧ HT.sIx xs.length xs.length hi = xs.length) : cutV xs lo hi = xs := by
  unfold cutV
  rw [h.1, h.2, List.drop_zero, Nat.sub_zero, List.take_length]
theorem sl_k {K : PySem.W.Frag} {k : Kind} {H : Hp} {a : Addr} {xs : List V} {lo hi : Option Int} {Q : V → Hp → Prop} (ha : Sk K k H a xs) (h : ∀ p H', Same H H' → Sk K k H' p (cutV xs lo hi) → Q (.ref p) H') :
    rSlL K (.ref a) lo hi H Q ∨ rSlA K (.ref a) lo hi H Q := by
  cases k
  · exact .inl ⟨a, xs, rfl, ha, fun p hp => h p _ (new_ hp) (SqL.of upd_same)⟩
  · exact .inr ⟨a, xs, rfl, ha, fun w => h a H (fun _ _ e => e) (by rw [cut_all w]; exact ha), fun _ p hp => h p _ (new_ hp) (SqT.of upd_same)⟩
theorem cut_1 (xs : List V) : cutV xs (some (1 : Int)) none = xs.drop 1 := by
  unfold cutV
  rw [show (1 : Int) = ((1 : Nat) : Int) from rfl, HT.sIx_nat, HT.sIx_none]
  rcases Nat.eq_zero_or_pos xs.length with h | h
  · have : xs = [] := List.length_eq_zero_iff.mp h
    subst this
    rfl
  · rw [Nat.min_eq_left h, List.take_of_length_le (by rw [List.length_drop]; exact Nat.le_refl _)]
theorem cut_to (xs : List V) (n : Nat) : cutV xs none (some (n : Int)) = xs.take n := by
  unfold cutV
  rw [HT.sIx_nat, HT.sIx_none, List.drop_zero, Nat.sub_zero]
  rcases Nat.le_total n xs.length with h | h
  · rw [Nat.min_eq_left h]
  · rw [Nat.min_eq_right h, List.take_length, List.take_of_length_le h]
/-! ### small words -/
theorem take_succ' {α : Type} {l : List α} {i : Nat} {x : α} (h : l[i]? = some x) : l.take (i + 1) = l.take i ++ [x] := by
  rw [List.take_add_one, h]
  rfl
theorem ifD_no {p A B : Prop} [Decidable p] (h : ¬ p) (q : B) : if decide p = true then A else B := by
  rw [decide_eq_false h]
  exact iteF q
theorem ifD_yes {p A B : Prop} [Decidable p] (h : p) (q : A) : if decide p = true then A else B := by
  rw [decide_eq_true h]
  exact iteT q
theorem ifD_2 {p A B : Prop} [Decidable p] (h1 : p → A) (h2 : ¬ p → B) : if decide p = true then A else B := by
  by_cases h : p
  · exact ifD_yes h (h1 h)
  · exact ifD_no h (h2 h)
theorem ifB_2 {b : Bool} {A B : Prop} (h1 : b = true → A) (h2 : b = false → B) : if b = true then A else B := by
  cases b
  · exact iteF (h2 rfl)
  · exact iteT (h1 rfl)
theorem Same.none {H H' : Hp} {x : Addr} (s : Same H H') (h : H' x = Option.none) : H x = Option.none := by
  cases e : H x with
  | none => rfl
  | some o => rw [s _ _ e] at h; cases h
theorem all_true (n : Nat) : (List.replicate n true).all id = true := by
  rw [List.all_eq_true]
  intro x hx
  rw [(List.mem_replicate.mp hx).2]
  rfl
theorem boot_isi : bootBuiltins "isinstance" = some (.builtin "isinstance") := by decide +kernel
theorem boot_int' : bootBuiltins "int" = some (.type "int") := by decide +kernel
theorem boot_bool' : bootBuiltins "bool" = some (.type "bool") := by decide +kernel
theorem boot_tuple' : bootBuiltins "tuple" = some (.type "tuple") := by decide +kernel
theorem boot_list' : bootBuiltins "list" = some (.type "list") := by decide +kernel
theorem boot_all' : bootBuiltins "all" = some (.builtin "all") := by decide +kernel
structure Df (K : PySem.W.Frag) (mg : Str → Option Value) (x : Str) (st : Stmt) (f : Addr) (fd : FuncData) (ps : List Str) : Prop where
  F : Fun K x x st f fd
  B : Binds K fd ps []
  M : mg x = some (.ref f)
def rTupK (K : PySem.W.Frag) : List V → Hp → (V → Hp → Prop) → Prop := fun xs H Q => ∃ p ys, xs = [.ref p] ∧ ((SqL K H p ys ∧ ∀ l, H l = none → Q (.ref l) (upd H l (.tup ys))) ∨ (SqT K H p ys ∧ Q (.ref p) H))
theorem call_tupleK {X : Cx} {K : PySem.W.Frag} (h : X.K = K) : CallR X (.type "tuple") (rTupK K) := h ▸ call_tuple_of
def rLstK (K : PySem.W.Frag) : List V → Hp → (V → Hp → Prop) → Prop := fun xs H Q => ∃ p ys, xs = [.ref p] ∧ (SqL K H p ys ∨ SqT K H p ys) ∧ ∀ l, H l = none → Q (.ref l) (upd H l (.lst ys))
theorem call_listK {X : Cx} {K : PySem.W.Frag} (h : X.K = K) : CallR X (.type "list") (rLstK K) := h ▸ call_list_of
def rLenK (K : PySem.W.Frag) : List V → Hp → (V → Hp → Prop) → Prop := fun xs H Q => ∃ p ys, xs = [.ref p] ∧ (SqL K H p ys ∨ SqT K H p ys) ∧ Q (.int ys.length) H
theorem call_lenK {X : Cx} {K : PySem.W.Frag} (h : X.K = K) : CallR X (.builtin "len") (rLenK K) := h ▸ call_len_seq
def rIxTK (K : PySem.W.Frag) : R2 := fun x y H Q => ∃ p xs i v, x = .ref p ∧ y = .int i ∧ SqT K H p xs ∧ atI xs i = some v ∧ Q v H
theorem ix_tupK {X : Cx} {K : PySem.W.Frag} (h : X.K = K) : IxR X (rIxTK K) := h ▸ ix_tup
/-! ### what stands at each place of a list of references -/
def Ea {α : Type} (H : Hp) (P : Hp → Addr → α → Prop) (xs : List V) (ds : List α) : Prop := xs.length = ds.length ∧ ∀ (i : Nat) (x : V) (r : α), xs[i]? = some x → ds[i]? = some r → ∃ c, x = .ref c ∧ P H c r
section
variable {α : Type} {H H' : Hp} {P P' : Hp → Addr → α → Prop} {xs ys : List V} {ds es : List α} {c : Addr} {r : α}
theorem Ea.imp (e : Ea H P xs ds) (f : ∀ c r, P H c r → P' H' c r) : Ea H' P' xs ds := ⟨e.1, fun i x r h1 h2 => let ⟨c, hx, q⟩ := e.2 i x r h1 h2; ⟨c, hx, f c r q⟩⟩
theorem Ea.nil : Ea H P [] [] := ⟨rfl, fun i x r h _ => by simp at h⟩
theorem Ea.append (e : Ea H P xs ds) (e' : Ea H P ys es) : Ea H P (xs ++ ys) (ds ++ es) := by
  refine ⟨by rw [List.length_append, List.length_append, e.1, e'.1], fun i x r h1 h2 => ?_⟩
  rcases Nat.lt_or_ge i xs.length with hi | hi
  · rw [List.getElem?_append_left hi] at h1
    rw [List.getElem?_append_left (by rw [← e.1]; exact hi)] at h2
    exact e.2 i x r h1 h2
  · rw [List.getElem?_append_right hi] at h1
    rw [List.getElem?_append_right (by rw [← e.1]; exact hi), ← e.1] at h2
    exact e'.2 _ x r h1 h2
theorem Ea.one (q : P H c r) : Ea H P [.ref c] [r] := by
  refine ⟨rfl, fun i x r' h1 h2 => ?_⟩
  match i, h1, h2 with
  | 0, h1, h2 =>
    cases h1
    cases h2
    exact ⟨c, rfl, q⟩
  | (j + 1), h1, _ => simp at h1
theorem Ea.push (e : Ea H P xs ds) (q : P H c r) : Ea H P (xs ++ [.ref c]) (ds ++ [r]) := e.append (.one q)
theorem Ea.get (e : Ea H P xs ds) {i : Nat} {r : α} (h : ds[i]? = some r) : ∃ c, xs[i]? = some (.ref c) ∧ P H c r := by
  have hi : i < xs.length := by rw [e.1]; exact (List.getElem?_eq_some_iff.mp h).1
  obtain ⟨c, hc, q⟩ := e.2 i _ r (List.getElem?_eq_getElem hi) h
  exact ⟨c, by rw [List.getElem?_eq_getElem hi, hc], q⟩
theorem Ea.at_ (e : Ea H P xs ds) {i : Nat} {x : V} (h : xs[i]? = some x) : ∃ c r, x = .ref c ∧ ds[i]? = some r ∧ P H c r := by
  have hi : i < ds.length := by rw [← e.1]; exact (List.getElem?_eq_some_iff.mp h).1
  obtain ⟨c, hc, q⟩ := e.2 i _ _ h (List.getElem?_eq_getElem hi)
  exact ⟨c, _, hc, List.getElem?_eq_getElem hi, q⟩
end
/-- a tuple at c of what r is written as -/
def TupOf {α : Type} (f : α → List V) (H : Hp) (c : Addr) (r : α) : Prop := H c = some (.tup (f r))
section
variable {α : Type} {f : α → List V} {H H' : Hp} {xs : List V} {ds : List α} {c p C dx : Addr} {r : α}
theorem TupOf.lst {ys zs : List V} (q : TupOf f H c r) (hD : H p = some (.lst ys)) : TupOf f (upd H p (.lst zs)) c r := by
  unfold TupOf
  rw [upd_ne (ne_of (H := H) q hD (by intro z; cases z))]
  exact q
theorem TupOf.ins {fs : List (Str × V)} {o : HO} (q : TupOf f H c r) (hp : H p = some (.ins C dx fs)) : TupOf f (upd H p o) c r := by
  unfold TupOf
  rw [upd_ne (ne_of (H := H) q hp (by intro z; cases z))]
  exact q
theorem TupOf.but {ys : List V} (q : TupOf f H c r) (hD : H p = some (.lst ys)) (b : But p H H') : TupOf f H' c r := b _ _ (ne_of (H := H) q hD (by intro z; cases z)) q
theorem Ea.same (e : Ea H (TupOf f) xs ds) (s : Same H H') : Ea H' (TupOf f) xs ds := e.imp fun c r q => s _ _ q
end
end L2

set_option maxHeartbeats 2000000
namespace PA
/-- below 2 ^ n in size -/
abbrev Sm (n : Nat) (x : Int) : Prop := x.natAbs < 2 ^ n
theorem Sm.mono {n m : Nat} {x : Int} (h : Sm n x) (hn : n ≤ m) : Sm m x := Nat.lt_of_lt_of_le h (Nat.pow_le_pow_right (by decide) hn)
theorem Sm.mul {n m k : Nat} {x y : Int} (hx : Sm n x) (hy : Sm m y) (h : n + m ≤ k) : Sm k (x * y) := by
  refine Sm.mono (n := n + m) ?_ h
  unfold Sm
  rw [Int.natAbs_mul, Nat.pow_add]
  exact Nat.mul_lt_mul'' hx hy
theorem Sm.add {n k : Nat} {x y : Int} (hx : Sm n x) (hy : Sm n y) (h : n + 1 ≤ k) : Sm k (x + y) := by
  refine Sm.mono (n := n + 1) ?_ h
  unfold Sm at *
  rw [Nat.pow_succ]
  omega
theorem Sm.sub {n k : Nat} {x y : Int} (hx : Sm n x) (hy : Sm n y) (h : n + 1 ≤ k) : Sm k (x - y) := by
  refine Sm.mono (n := n + 1) ?_ h
  unfold Sm at *
  rw [Nat.pow_succ]
  omega
theorem Sm.neg {n : Nat} {x : Int} (hx : Sm n x) : Sm n (-x) := by
  unfold Sm at *
  rw [Int.natAbs_neg]
  exact hx
theorem Sm.le {n : Nat} {x y : Int} (hx : Sm n x) (h : y.natAbs ≤ x.natAbs) : Sm n y := Nat.lt_of_le_of_lt h hx
theorem Sm.one {n : Nat} (h : 0 < n) : Sm n 1 := by
  show (1 : Int).natAbs < 2 ^ n
  exact Nat.one_lt_two_pow (by omega)

/-- the divisor that a Ratio shortens by -/
def shr (t b : Int) : Int := if b < 0 then -((Nat.gcd t.natAbs b.natAbs : Nat) : Int) else ((Nat.gcd t.natAbs b.natAbs : Nat) : Int)
/-- lowest terms -/
structure Low (T B : Int) : Prop where
  pos : 0 < B
  cop : Nat.gcd T.natAbs B.natAbs = 1
theorem low_one (i : Int) : Low i 1 := ⟨by decide, Nat.gcd_one_right _⟩
theorem gcd_key {a b c d g : Nat} (h1 : a = c * g) (h2 : b = d * g) : Nat.gcd a b = Nat.gcd c d * g := by
  rw [h1, h2]
  exact Nat.gcd_mul_right _ _ _
theorem rat_mk {t b : Int} (hb : b ≠ 0) : shr t b ≠ 0 ∧ (shr t b).natAbs ≤ b.natAbs ∧ Low (t.fdiv (shr t b)) (b.fdiv (shr t b)) ∧ (t.fdiv (shr t b)) * b = t * (b.fdiv (shr t b)) ∧
    (t.fdiv (shr t b)).natAbs ≤ t.natAbs ∧ (b.fdiv (shr t b)).natAbs ≤ b.natAbs := by
  have hg : 0 < Nat.gcd t.natAbs b.natAbs := Nat.gcd_pos_of_pos_right _ (Int.natAbs_pos.mpr hb)
  have hgb : Nat.gcd t.natAbs b.natAbs ≤ b.natAbs := Nat.gcd_le_right _ (Int.natAbs_pos.mpr hb)
  have hsn : (shr t b).natAbs = Nat.gcd t.natAbs b.natAbs := by
    unfold shr
    split
    · rw [Int.natAbs_neg, Int.natAbs_natCast]
    · rw [Int.natAbs_natCast]
  have hs0 : shr t b ≠ 0 := by
    intro z
    rw [z] at hsn
    simp at hsn
    omega
  have dv : ∀ y : Int, (Nat.gcd t.natAbs b.natAbs) ∣ y.natAbs → ∃ q : Int, y = q * shr t b := by
    intro y hy
    have h1 : ((Nat.gcd t.natAbs b.natAbs : Nat) : Int) ∣ y := Int.ofNat_dvd_left.mpr hy
    obtain ⟨q, hq⟩ := h1
    unfold shr
    split
    · exact ⟨-q, by rw [Int.neg_mul_neg, Int.mul_comm]; exact hq⟩
    · exact ⟨q, by rw [Int.mul_comm]; exact hq⟩
  obtain ⟨T, hT⟩ := dv t (Nat.gcd_dvd_left _ _)
  obtain ⟨B, hB⟩ := dv b (Nat.gcd_dvd_right _ _)
  have eT : t.fdiv (shr t b) = T := by
    conv => lhs; lhs; rw [hT]
    exact Int.mul_fdiv_cancel _ hs0
  have eB : b.fdiv (shr t b) = B := by
    conv => lhs; lhs; rw [hB]
    exact Int.mul_fdiv_cancel _ hs0
  rw [eT, eB]
  have nT : t.natAbs = T.natAbs * Nat.gcd t.natAbs b.natAbs := by
    conv => lhs; rw [hT, Int.natAbs_mul, hsn]
  have nB : b.natAbs = B.natAbs * Nat.gcd t.natAbs b.natAbs := by
    conv => lhs; rw [hB, Int.natAbs_mul, hsn]
  refine ⟨hs0, by rw [hsn]; exact hgb, ⟨?_, ?_⟩, ?_, ?_, ?_⟩
  · have hB0 : B ≠ 0 := by
      intro z
      rw [z, Int.zero_mul] at hB
      exact hb hB
    rcases Int.lt_or_gt_of_ne hB0 with h | h
    · exfalso
      unfold shr at hB
      split at hB
      · rename_i hneg
        have : 0 < B * -((Nat.gcd t.natAbs b.natAbs : Nat) : Int) := Int.mul_pos_of_neg_of_neg h (by omega)
        omega
      · rename_i hneg
        have : B * ((Nat.gcd t.natAbs b.natAbs : Nat) : Int) < 0 := Int.mul_neg_of_neg_of_pos h (by omega)
        omega
    · exact h
  · have e : Nat.gcd t.natAbs b.natAbs = Nat.gcd T.natAbs B.natAbs * Nat.gcd t.natAbs b.natAbs := by
      exact gcd_key nT nB
    have e2 : 1 * Nat.gcd t.natAbs b.natAbs = Nat.gcd T.natAbs B.natAbs * Nat.gcd t.natAbs b.natAbs := by rw [Nat.one_mul]; exact e
    exact (Nat.eq_of_mul_eq_mul_right hg e2).symm
  · calc T * b = T * (B * shr t b) := by rw [← hB]
      _ = (T * shr t b) * B := by rw [Int.mul_comm B, ← Int.mul_assoc]
      _ = t * B := by rw [← hT]
  · rw [nT]; exact Nat.le_mul_of_pos_right _ hg
  · rw [nB]; exact Nat.le_mul_of_pos_right _ hg
/-- a fraction has one lowest form -/
theorem Low.uniq {T B T' B' : Int} (h : Low T B) (h' : Low T' B') (e : T * B' = T' * B) : T = T' ∧ B = B' := by
  have n : T.natAbs * B'.natAbs = T'.natAbs * B.natAbs := by rw [← Int.natAbs_mul, ← Int.natAbs_mul, e]
  have d1 : B.natAbs ∣ B'.natAbs := by
    have : B.natAbs ∣ T.natAbs * B'.natAbs := ⟨T'.natAbs, by rw [n, Nat.mul_comm]⟩
    exact (Nat.Coprime.symm h.cop).dvd_of_dvd_mul_left this
  have d2 : B'.natAbs ∣ B.natAbs := by
    have : B'.natAbs ∣ T'.natAbs * B.natAbs := ⟨T.natAbs, by rw [← n, Nat.mul_comm]⟩
    exact (Nat.Coprime.symm h'.cop).dvd_of_dvd_mul_left this
  have eB : B = B' := by
    have := Nat.dvd_antisymm d1 d2
    have p1 := h.pos
    have p2 := h'.pos
    omega
  subst eB
  have hB : B ≠ 0 := by have := h.pos; omega
  exact ⟨Int.eq_of_mul_eq_mul_right hB e, rfl⟩
theorem Low.neg {T B : Int} (h : Low T B) : Low (-T) B := ⟨h.pos, by rw [Int.natAbs_neg]; exact h.cop⟩
/-- a = n / d and b = n / d -/
theorem cross {a b n d x y : Int} (hb : b ≠ 0) (h1 : a * d = n * b) (h2 : n * y = x * d) (hd : d ≠ 0) : a * y = x * b := by
  have : (a * y) * d = (x * b) * d := by
    calc (a * y) * d = (a * d) * y := by rw [Int.mul_assoc, Int.mul_comm y, ← Int.mul_assoc]
      _ = (n * b) * y := by rw [h1]
      _ = (n * y) * b := by rw [Int.mul_assoc, Int.mul_comm b, ← Int.mul_assoc]
      _ = (x * d) * b := by rw [h2]
      _ = (x * b) * d := by rw [Int.mul_assoc, Int.mul_comm d, ← Int.mul_assoc]
  exact Int.eq_of_mul_eq_mul_right hd this
end PA

set_option maxHeartbeats 4000000
namespace PA
open PySem L2 RZ
open C8 (pss_cut tCut)
def top (i : Nat) : Stmt := PySem.Challenge.pw_pairahead_k19_sequences_in_row_sets.main.body.getD i (.Pass ⟨0, 0, 0, 0⟩)
abbrev sIsInt : Stmt := top 5
abbrev sBelow : Stmt := top 6
abbrev sAfter : Stmt := top 10
abbrev sInit : Stmt := inClass (top 23) 0
abbrev sHas : Stmt := inClass (top 23) 5
abbrev sCheck : Stmt := top 24
abbrev sIsRow : Stmt := top 25
/-! ### data: entries, lines -/
abbrev Ln := Option Nat × Option Nat
def ev : Option Nat → V
  | none => .non
  | some n => .int (n : Int)
def lv (l : Ln) : List V := [ev l.1, ev l.2]
def EOk (n : Nat) (o : Option Nat) : Prop := ∀ a, o = some a → a < n
def LOk (n : Nat) (l : Ln) : Prop := EOk n l.1 ∧ EOk n l.2
structure GoodL (ls : List Ln) : Prop where
  one : 1 ≤ ls.length
  most : ls.length ≤ 48
  ok : ∀ l ∈ ls, LOk ls.length l
abbrev isLn : Hp → Addr → Ln → Prop := TupOf lv
/-- the state behind one more call -/
def nxt (ls : List Ln) (s : Option Nat) (same : Bool) : Option Nat := s.bind fun i => (ls[i]?).bind fun l => if same = true then l.1 else l.2
def walk (ls : List Ln) : Option Nat → Int → List Int → Option Nat
  | s, _, [] => s
  | s, b, c :: r => walk ls (nxt ls s (decide (c = b))) c r
def aft (ls : List Ln) : List Int → Option Nat
  | [] => some 0
  | c :: r => walk ls (some 0) c r
structure Txt (K : PySem.W.Frag) (mg : Str → Option Value) : Prop where
  isi : mg "isinstance" = none
  int_ : mg "int" = none
  bool_ : mg "bool" = none
  list_ : mg "list" = none
  tup_ : mg "tuple" = none
  len_ : mg "len" = none
  all_ : mg "all" = none
  zip_ : mg "zip" = none
  range_ : mg "range" = none
  enum_ : mg "enumerate" = none
  most : ∃ t, mg "MOST_ROWS" = some (.int 48 t)
/-! ### promises -/
def spIsInt : Sp := fun vs H Q _ => ∃ i, vs = [.int i] ∧ Q (.bl true) H
def spBelow : Sp := fun vs H Q _ => ∃ v c : Int, vs = [.int v, .int c] ∧ 0 ≤ v ∧ v < c ∧ Q (.bl true) H
def spIsRow : Sp := fun vs H Q _ => ∃ (p : Addr) (l : Ln) (n : Nat), vs = [.ref p, .int (n : Int)] ∧ isLn H p l ∧ LOk n l ∧ ∀ H', Same H H' → Q (.bl true) H'
def spCheck : Sp := fun vs H Q _ => ∃ (R : Addr) (refs : List V) (ls : List Ln), vs = [.ref R] ∧ H R = some (.tup refs) ∧ Ea H isLn refs ls ∧ GoodL ls ∧ ∀ H', Same H H' → Q .non H'
section
variable {P : Program} {w : World} {K : PySem.W.Frag} {mg : Str → Option Value} {base : Heap} {C : Addr}
theorem scIsInt : FnScope ["value"] ["value"] (defScope sIsInt) := ⟨rfl, rfl, rfl, by decide +kernel, rfl, by decide +kernel, by decide +kernel⟩
theorem ok_isInt {f : Addr} {fd : FuncData} (F : Fun K "is_integer" "is_integer" sIsInt f fd) (T : Txt K mg) : FnOk P w K mg base CX0 1 f fd ["value"] spIsInt := by
  refine F.ok scIsInt (fun vs H Q E h => ?_) (fun cdv A outer s H vs Q E hr h => ?_)
  · obtain ⟨i, rfl, _⟩ := h
    rfl
  · obtain ⟨i, rfl, k⟩ := h
    refine ⟨_, pss_one (ps_ret (pe_and (pe_callB call_isi (by rfl) T.isi boot_isi (pa_cons (pv 0) (pa_cons (pe_bltn (v := .ty "int") (by rfl) T.int_ boot_int' rfl) pa_nil)))
      (pe_one (pe_not (pe_callB call_isi (by rfl) T.isi boot_isi (pa_cons (pv 0) (pa_cons (pe_bltn (v := .ty "bool") (by rfl) T.bool_ boot_bool' rfl) pa_nil))))))), ?_⟩
    refine ⟨_, rfl, _, _, _, _, _, rfl, .ty _, .base (.int i), kit_ty (b := "int") (r := true) (by decide +kernel), _, rfl, iteT ?_⟩
    exact ⟨_, rfl, _, _, _, _, _, rfl, .ty _, .base (.int i), kit_ty (b := "bool") (r := false) (by decide +kernel), _, rfl, k⟩
theorem scBelow : FnScope ["value", "count"] ["value", "count"] (defScope sBelow) := ⟨rfl, rfl, rfl, by decide +kernel, rfl, by decide +kernel, by decide +kernel⟩
theorem ok_below {f g : Addr} {fd gd : FuncData} (F : Fun K "is_below" "is_below" sBelow f fd) (T : Txt K mg) (D : Df K mg "is_integer" sIsInt g gd ["value"]) : FnOk P w K mg base CX0 2 f fd ["value", "count"] spBelow := by
  have G : FnOk P w K mg base CX0 1 g gd ["value"] spIsInt := ok_isInt D.F T
  refine F.ok scBelow (fun vs H Q E h => ?_) (fun cdv A outer s H vs Q E hr h => ?_)
  · obtain ⟨v, c, rfl, _⟩ := h
    rfl
  · obtain ⟨v, c, rfl, h0, h1, k⟩ := h
    refine ⟨_, pss_one (ps_ret (pe_and (pe_call G hr rfl D.M D.F.kp D.B .nil pass0 (pa_cons (pv 0) pa_nil)) (pe_one (pe_chain op_le op_lt pe_int (pv 0) (pv 1))))), ?_⟩
    refine ⟨_, rfl, v, rfl, _, rfl, iteT ?_⟩
    refine ⟨_, rfl, _, _, rfl, rfl, _, rfl, ifD_yes h0 ⟨_, rfl, _, _, rfl, rfl, ?_⟩⟩
    show Q (V.bl (decide (v < c))) H
    rw [decide_eq_true h1]
    exact k
theorem scIsRow : FnScope ["row", "count", "entry"] ["row", "count"] (defScope sIsRow) := ⟨rfl, rfl, rfl, by decide +kernel, rfl, by decide +kernel, by decide +kernel⟩
theorem ok_isRow {f g1 g2 : Addr} {fd gd1 gd2 : FuncData} (F : Fun K "_is_row" "_is_row" sIsRow f fd) (T : Txt K mg) (D1 : Df K mg "is_integer" sIsInt g1 gd1 ["value"]) (D2 : Df K mg "is_below" sBelow g2 gd2 ["value", "count"]) : FnOk P w K mg base CX0 3 f fd ["row", "count"] spIsRow := by
  have G2 : FnOk P w K mg base CX0 2 g2 gd2 ["value", "count"] spBelow := ok_below D2.F T D1
  refine F.ok scIsRow (fun vs H Q E h => ?_) (fun cdv A outer s H vs Q E hr h => ?_)
  · obtain ⟨p, _, _, rfl, _⟩ := h
    rfl
  · obtain ⟨p, l, n, rfl, hp, hl, kk⟩ := h
    refine ⟨_, pss_one (ps_ret (pe_and (pe_cmpR op_eq (pe_callB call_len_seq (by rfl) T.len_ PySem.boot_len (pa_cons (pv 0) pa_nil)) pe_int (nomark _))
      (pe_one (pe_callB (cr_all rfl) (by rfl) T.all_ boot_all' (pa_cons (pe_lc (own := [("entry", 2)]) (g := gName 2) (tt := tYes) (by rfl) scIsRow.nd (pi_sq (pv 0)) (blkOk_by (N := ["row", "count", "entry"]) (sc := defScope sIsRow) (by decide +kernel))
          (fun _ _ _ _ _ => pg_name (i := 2) scIsRow.nd rfl (Or.inl rfl)) (fun _ _ _ _ _ => pts_nil)
          (fun _ _ _ _ _ => pe_or (pe_cmp (pc_isN (pv 2))) (pe_one (pe_call G2 hr rfl D2.M D2.F.kp D2.B .nil pass0 (pa_cons (pv 2) (pa_cons (pv 1) pa_nil)))))) pa_nil))))), ?_⟩
    refine ⟨_, rfl, p, _, rfl, .inr (SqT.of hp), rfl, _, rfl, ifD_yes rfl ?_⟩
    refine ⟨.t, _, rfl, p, rfl, ⟨_, SqT.of hp⟩, fun Dd hD => ?_⟩
    refine lc_same (xs := lv l) (walk_k (k := .t)) (by show 2 ≤ sizeLine; decide) hD (fun H' s' => SqT.of (s' _ _ hp)) ((List.replicate 2 true).map V.bl) rfl (fun i x y H' Φ Ψ hx hy sm k => ?_) fun H' s' hd => ?_
    · have he : ∃ o, x = ev o ∧ EOk n o := by
        rcases i with _ | _ | i
        · cases hx; exact ⟨l.1, rfl, hl.1⟩
        · cases hx; exact ⟨l.2, rfl, hl.2⟩
        · cases hx
      have ey : y = .bl true := by
        rcases i with _ | _ | i
        · cases hy; rfl
        · cases hy; rfl
        · cases hy
      subst ey
      obtain ⟨o, rfl, ho⟩ := he
      refine ⟨rfl, ?_⟩
      dsimp only [tYes]
      rw [if_pos rfl]
      cases o with
      | none => exact ⟨_, rfl, true, rfl, iteT (k H' fun _ _ e => e)⟩
      | some a =>
        have ha := ho a rfl
        exact ⟨_, rfl, false, rfl, iteF ⟨_, rfl, _, rfl, (a : Int), (n : Int), rfl, by omega, by omega, k H' fun _ _ e => e⟩⟩
    · refine ⟨Dd, _, rfl, SqL.of hd, ?_⟩
      exact kk H' s'
theorem scCheck : FnScope ["rows", "row"] ["rows"] (defScope sCheck) := ⟨rfl, rfl, rfl, by decide +kernel, rfl, by decide +kernel, by decide +kernel⟩
theorem ok_check {f g1 g2 g3 : Addr} {fd gd1 gd2 gd3 : FuncData} (F : Fun K "_check_rows" "_check_rows" sCheck f fd) (T : Txt K mg) (D1 : Df K mg "is_integer" sIsInt g1 gd1 ["value"]) (D2 : Df K mg "is_below" sBelow g2 gd2 ["value", "count"]) (D3 : Df K mg "_is_row" sIsRow g3 gd3 ["row", "count"]) : FnOk P w K mg base CX0 4 f fd ["rows"] spCheck := by
  have G3 : FnOk P w K mg base CX0 3 g3 gd3 ["row", "count"] spIsRow := ok_isRow D3.F T D1 D2
  obtain ⟨tm, hmost⟩ := T.most
  refine F.ok scCheck (fun vs H Q E h => ?_) (fun cdv A outer s H vs Q E hr h => ?_)
  · obtain ⟨R, _, _, rfl, _⟩ := h
    rfl
  · obtain ⟨R, refs, ls, rfl, hR, hE, gd, kk⟩ := h
    refine ⟨_, pss_cons (ps_if (pt_not (pt_chain op_le op_le pe_int (pe_callB call_len_seq (by rfl) T.len_ PySem.boot_len (pa_cons (pv 0) pa_nil)) (pe_glob (v := .int 48) rfl hmost ⟨_, rfl⟩))) pss_never pss_nil)
      (pss_one (ps_if (pt_not (pt_val (pe_callB (cr_all rfl) (by rfl) T.all_ boot_all' (pa_cons (pe_lc (own := [("row", 1)]) (g := gName 1) (tt := tYes) (by rfl) scCheck.nd (pi_sq (pv 0)) (blkOk_by (N := ["rows", "row"]) (sc := defScope sCheck) (by decide +kernel))
          (fun _ _ _ _ _ => pg_name (i := 1) scCheck.nd rfl (Or.inl rfl)) (fun _ _ _ _ _ => pts_nil)
          (fun _ _ _ _ _ => pe_call G3 hr rfl D3.M D3.F.kp D3.B .nil pass0 (pa_cons (pv 1) (pa_cons (pe_callB (call_lenK (K := K) rfl) (by rfl) T.len_ PySem.boot_len (pa_cons (pv 0) pa_nil)) pa_nil)))) pa_nil)))) pss_never pss_nil)), ?_⟩
    have hlr : refs.length = ls.length := hE.1
    have h1 := gd.one
    have h48 := gd.most
    refine ⟨_, rfl, R, _, rfl, .inr (SqT.of hR), _, _, rfl, rfl, _, rfl, ifD_yes (by rw [hlr]; omega) ?_⟩
    refine ⟨_, _, rfl, rfl, _, rfl, ?_⟩
    rw [hlr]
    have h48' : ((ls.length : Int) ≤ 48) := by omega
    rw [decide_eq_true h48']
    refine iteF ?_
    refine ⟨.t, _, rfl, R, rfl, ⟨_, SqT.of hR⟩, fun Dd hD => ?_⟩
    refine lc_same (xs := refs) (walk_k (k := .t)) (by rw [hlr]; exact Nat.le_trans h48 (by decide)) hD (fun H' s' => SqT.of (s' _ _ hR)) ((List.replicate refs.length true).map V.bl) (by simp) (fun i x y H' Φ Ψ hx hy sm k => ?_) fun H' s' hd => ?_
    · obtain ⟨c, l, rfl, hl, hc⟩ := hE.at_ hx
      have ey : y = .bl true := by
        rw [List.getElem?_map, Option.map_eq_some_iff] at hy
        obtain ⟨b, hb, rfl⟩ := hy
        rw [(List.mem_replicate.mp (List.mem_of_getElem? hb)).2]
      subst ey
      refine ⟨rfl, ?_⟩
      dsimp only [tYes]
      rw [if_pos rfl]
      refine ⟨_, rfl, _, rfl, R, _, rfl, .inr (SqT.of (sm _ _ hR)), c, l, ls.length, congrArg (fun z : Nat => [V.ref c, V.int (z : Int)]) hlr, sm _ _ hc, gd.ok l (List.mem_of_getElem? hl), k⟩
    · refine ⟨Dd, _, rfl, SqL.of hd, ?_⟩
      rw [all_true]
      exact ⟨true, rfl, iteF (kk H' s')⟩
end
end PA

set_option maxHeartbeats 4000000
namespace PA
open PySem L2 RZ
open C8 (pss_cut tCut)
/-- a tuple or a list at c of what r is written as -/
def TLOf {α : Type} (f : α → List V) (H : Hp) (c : Addr) (r : α) : Prop := H c = some (.tup (f r)) ∨ H c = some (.lst (f r))
def rsf (T : Addr) : List (Str × V) := putF "rows" (.ref T) []
theorem rsf_rows (T : Addr) : (rsf T).lookup ("rows" : Str) = some (.ref T) := by
  unfold rsf
  rw [lookup_putF, if_pos rfl]
theorem rsf_no (T : Addr) {m : Str} (h1 : ¬ m = "rows") : (rsf T).lookup m = none := by
  unfold rsf
  rw [lookup_putF, if_neg h1]
  all_goals rfl
/-- a RowSet of these lines stands at p -/
def SetAt (C : Addr) (H : Hp) (p : Addr) (ls : List Ln) : Prop := ∃ dx T refs, H p = some (.ins C dx (rsf T)) ∧ H T = some (.tup refs) ∧ Ea H isLn refs ls
theorem SetAt.same {C : Addr} {H H' : Hp} {p : Addr} {ls : List Ln} (m : SetAt C H p ls) (s : Same H H') : SetAt C H' p ls := by
  obtain ⟨dx, T, refs, h1, h2, h3⟩ := m
  exact ⟨dx, T, refs, s _ _ h1, s _ _ h2, h3.same s⟩
theorem SetAt.nl {C : Addr} {H H' : Hp} {p : Addr} {ls : List Ln} (m : SetAt C H p ls) (nl : ∀ c o, H c = some o → (∀ xs, o ≠ .lst xs) → H' c = some o) : SetAt C H' p ls := by
  obtain ⟨dx, T, refs, h1, h2, h3⟩ := m
  exact ⟨dx, T, refs, nl _ _ h1 (by intro xs e; cases e), nl _ _ h2 (by intro xs e; cases e), h3.imp fun c r q => nl _ _ q (by intro xs e; cases e)⟩
/-- what the class RowSet is, and Found -/
structure TxtC (K : PySem.W.Frag) (mg : Str → Option Value) (C Fo : Addr) : Prop where
  cl : Cls K C
  nR : NoAttr K C "rows"
  mgC : mg "RowSet" = some (.ref C)
  mgF : mg "Found" = some (.ref Fo)
  kl : PySem.W.kitOne K (.type "list") (.ref Fo) = some false
  kt : PySem.W.kitOne K (.type "tuple") (.ref Fo) = some false
def spInit (K : PySem.W.Frag) (C : Addr) : Sp := fun vs H Q _ => ∃ (p dx L : Addr) (refs : List V) (ls : List Ln), vs = [.ref p, .ref L] ∧ H p = some (.ins C dx []) ∧ (H L = some (.lst refs) ∨ H L = some (.tup refs)) ∧ Ea H (TLOf lv) refs ls ∧ GoodL ls ∧
  ∀ H', (∃ T refs', H' p = some (.ins C dx (rsf T)) ∧ H' T = some (.tup refs') ∧ Ea H' isLn refs' ls) → (∀ c o, H c = some o → c ≠ p → H' c = some o) → Q .non H'
section
variable {P : Program} {w : World} {K : PySem.W.Frag} {mg : Str → Option Value} {base : Heap} {C Fo : Addr}
theorem scInit : FnScope ["self", "rows", "row"] ["self", "rows"] (defScope sInit) := ⟨rfl, rfl, rfl, by decide +kernel, rfl, by decide +kernel, by decide +kernel⟩
theorem ok_init {f g1 g2 g3 g4 : Addr} {fd gd1 gd2 gd3 gd4 : FuncData} (F : Fun K "__init__" "RowSet.__init__" sInit f fd) (T : Txt K mg) (TC : TxtC K mg C Fo) (D1 : Df K mg "is_integer" sIsInt g1 gd1 ["value"]) (D2 : Df K mg "is_below" sBelow g2 gd2 ["value", "count"]) (D3 : Df K mg "_is_row" sIsRow g3 gd3 ["row", "count"]) (D4 : Df K mg "_check_rows" sCheck g4 gd4 ["rows"]) :
    FnOk P w K mg base CX0 5 f fd ["self", "rows"] (spInit K C) := by
  have G4 : FnOk P w K mg base CX0 4 g4 gd4 ["rows"] spCheck := ok_check D4.F T D1 D2 D3
  refine F.ok scInit (fun vs H Q E h => ?_) (fun cdv A outer s H vs Q E hr h => ?_)
  · obtain ⟨p, dx, L, _, _, rfl, _⟩ := h
    rfl
  · obtain ⟨p, dx, L, refs, ls, rfl, hp, hL, hE, gd, kk⟩ := h
    refine ⟨_, pss_one (ps_if (pt_val (pe_callB call_isi (by rfl) T.isi boot_isi (pa_cons (pv 1) (pa_cons (pe_glob (v := .ref Fo) rfl TC.mgF rfl) pa_nil)))) pss_never
        (pss_cons (ps_fld (pv 0) (pe_callTy call_tuple_of (by rfl) T.tup_ boot_tuple' (pa_cons (pe_lc (own := [("row", 2)]) (g := gName 2) (tt := tYes) (by rfl) scInit.nd (pi_sq (pv 1)) (blkOk_by (N := ["self", "rows", "row"]) (sc := defScope sInit) (by decide +kernel))
          (fun _ _ _ _ _ => pg_name (i := 2) scInit.nd rfl (Or.inl rfl)) (fun _ _ _ _ _ => pts_nil)
          (fun _ _ _ _ _ => pe_callTy (call_tupleK (K := K) rfl) (by rfl) T.tup_ boot_tuple' (pa_cons (pv 2) pa_nil))) pa_nil)) rfl)
        (pss_one (ps_expr (pe_call G4 hr rfl D4.M D4.F.kp D4.B .nil pass0 (pa_cons (pe_fld (pv 0) rfl) pa_nil)))))), ?_⟩
    have hlr : refs.length = ls.length := hE.1
    have hsz : refs.length ≤ sizeLine := by rw [hlr]; exact Nat.le_trans gd.most (by decide)
    obtain ⟨k, hk, hty⟩ : ∃ k, Sk K k H L refs ∧ ∃ t, TyX K H (.ref L) (.type t) ∧ PySem.W.kitOne K (.type t) (.ref Fo) = some false := by
      rcases hL with hL | hL
      · exact ⟨.l, SqL.of hL, "list", .base (.lst hL), TC.kl⟩
      · exact ⟨.t, SqT.of hL, "tuple", .base (.tup hL), TC.kt⟩
    obtain ⟨t, ht, hkit⟩ := hty
    refine ⟨_, rfl, _, _, _, _, _, rfl, .own Fo, ht, hkit, _, rfl, iteF ?_⟩
    refine ⟨k, _, rfl, L, rfl, ⟨_, hk⟩, fun Dd hD => ?_⟩
    refine lc_acc (xs := refs) (walk_k (k := k)) hsz hD (fun H' s' => hk.up s') (fun i acc H' => Ea H' isLn acc (ls.take i)) (fun i acc H' e => by rw [e.1, List.length_take]; omega) (by rw [List.take_zero]; exact Ea.nil) (fun i x H' acc Φ Ψ hi hx sm hd he kf => ?_) fun H1 acc s1 hd he => ?_
    · obtain ⟨c, l, rfl, hl, hc⟩ := hE.at_ hx
      refine ⟨rfl, ?_⟩
      dsimp only [tYes]
      rw [if_pos rfl]
      rcases hc with hc | hc
      · refine ⟨_, rfl, c, _, rfl, .inr ⟨SqT.of (sm _ _ hc), kf _ H' (fun _ _ e => e) hd fun H5 h5 b1 b2 => ?_⟩⟩
        rw [take_succ' hl]
        exact Ea.push (he.imp fun c' r' q => TupOf.but q hd b1) (TupOf.but (f := lv) (sm _ _ hc) hd b1)
      · refine ⟨_, rfl, c, _, rfl, .inl ⟨SqL.of (sm _ _ hc), fun q hq => ?_⟩⟩
        have sq := new_ (o := .tup (lv l)) hq
        refine kf _ _ sq (sq _ _ hd) fun H5 h5 b1 b2 => ?_
        rw [take_succ' hl]
        exact Ea.push (he.imp fun c' r' z => TupOf.but (f := lv) (sq _ _ z) (sq _ _ hd) b1) (TupOf.but (f := lv) upd_same (sq _ _ hd) b1)
    · rw [hlr, List.take_length] at he
      refine ⟨Dd, _, rfl, .inl ⟨SqL.of hd, fun l hl => ?_⟩⟩
      have sl := new_ (o := .tup acc) hl
      have hp1 := sl _ _ (s1 _ _ hp)
      refine ⟨_, rfl, p, C, dx, _, rfl, hp1, TC.cl, TC.nR, (by show 0 < 1000; decide), ?_⟩
      have hl1 : ∀ o : HO, (upd (upd H1 l (.tup acc)) p o) l = some (.tup acc) := fun o => by
        rw [upd_ne (ne_of hp1 upd_same (by intro z; cases z)).symm]
        exact upd_same
      refine ⟨_, rfl, p, C, dx, _, _, rfl, upd_same, TC.cl, TC.nR, rsf_rows l, l, acc, ls, rfl, hl1 _, ?_, gd, fun H2 s2 => ?_⟩
      · exact (he.same sl).imp fun c r q => TupOf.ins q hp1
      · refine kk H2 ⟨l, acc, s2 _ _ upd_same, s2 _ _ (hl1 _), ?_⟩ fun c o e hc => s2 _ _ (by rw [upd_ne hc]; exact sl _ _ (s1 _ _ e))
        exact ((he.same sl).imp fun c r q => TupOf.ins (f := lv) q hp1).same s2
end
end PA

set_option maxHeartbeats 4000000
namespace PA
open PySem L2 RZ
open C8 (pss_cut tCut)
/-! ### reading -/
theorem walk_snoc (ls : List Ln) : ∀ (r : List Int) (s : Option Nat) (b c : Int), walk ls s b (r ++ [c]) = nxt ls (walk ls s b r) (decide (c = (b :: r).getLast (by simp)))
  | [], s, b, c => rfl
  | d :: r, s, b, c => by
    show walk ls (nxt ls s (decide (d = b))) d (r ++ [c]) = _
    rw [walk_snoc ls r]
    show _ = nxt ls (walk ls (nxt ls s (decide (d = b))) d r) _
    rw [List.getLast_cons (by simp : d :: r ≠ [])]
theorem nxt_none (ls : List Ln) (b : Bool) : nxt ls none b = none := rfl
theorem walk_none (ls : List Ln) : ∀ (r : List Int) (b : Int), walk ls none b r = none
  | [], b => rfl
  | c :: r, b => by
    show walk ls (nxt ls none _) c r = none
    rw [nxt_none]
    exact walk_none ls r c
/-- the state behind the first i + 1 calls -/
def stAt (ls : List Ln) (zs : List Int) (i : Nat) : Option Nat := aft ls (zs.take (i + 1))
theorem last_take {zs : List Int} {i : Nat} {x : Int} (h : zs[i]? = some x) (hne : zs.take (i + 1) ≠ []) : (zs.take (i + 1)).getLast hne = x := by
  have hi := (List.getElem?_eq_some_iff.mp h).1
  have e : zs.take (i + 1) = zs.take i ++ [x] := take_succ' h
  simp only [e, List.getLast_append, List.getLast_singleton]
  simp
theorem st_step {ls : List Ln} {zs : List Int} {i : Nat} {x y : Int} (hx : zs[i]? = some x) (hy : zs[i + 1]? = some y) : stAt ls zs (i + 1) = nxt ls (stAt ls zs i) (decide (y = x)) := by
  unfold stAt
  rw [take_succ' hy]
  cases zs with
  | nil => simp at hx
  | cons c r =>
    have e : (c :: r).take (i + 1) = c :: r.take i := rfl
    have hl := last_take hx (by rw [e]; simp)
    rw [e]
    show walk ls (some 0) c (r.take i ++ [y]) = nxt ls (walk ls (some 0) c (r.take i)) _
    rw [walk_snoc]
    have hl' : (c :: r.take i).getLast (by simp) = x := by
      rw [← hl]
      congr 1
    rw [hl']
theorem st_0 {ls : List Ln} {zs : List Int} : stAt ls zs 0 = some 0 := by
  cases zs with
  | nil => rfl
  | cons c r => rfl
theorem st_end {ls : List Ln} {zs : List Int} {n : Nat} (h : zs.length ≤ n + 1) : stAt ls zs n = aft ls zs := by
  unfold stAt
  rw [List.take_of_length_le h]
/-- once None, always None -/
theorem st_none {ls : List Ln} {zs : List Int} {i : Nat} (h : stAt ls zs i = none) : aft ls zs = none := by
  cases zs with
  | nil => cases h
  | cons c r =>
    have e : r = r.take i ++ r.drop i := (List.take_append_drop i r).symm
    have h' : walk ls (some 0) c (r.take i) = none := h
    have app : ∀ (a b : List Int) (s : Option Nat) (d : Int), walk ls s d a = none → walk ls s d (a ++ b) = none := by
      intro a
      induction a with
      | nil => intro b s d h; cases h; exact walk_none ls b d
      | cons x a ih => intro b s d h; exact ih b _ x h
    show walk ls (some 0) c r = none
    rw [e]
    exact app _ _ _ _ h'
/-- the states are states -/
theorem nxt_lt {ls : List Ln} (gd : GoodL ls) {s : Option Nat} {b : Bool} {a : Nat} (h : nxt ls s b = some a) : a < ls.length := by
  unfold nxt at h
  cases s with
  | none => cases h
  | some i =>
    rw [Option.bind_some] at h
    cases hl : ls[i]? with
    | none => rw [hl] at h; cases h
    | some l =>
      rw [hl, Option.bind_some] at h
      have := gd.ok l (List.mem_of_getElem? hl)
      cases b
      · exact this.2 a h
      · exact this.1 a h
theorem walk_lt {ls : List Ln} (gd : GoodL ls) : ∀ (r : List Int) (s : Option Nat) (b : Int) (a : Nat), (∀ i, s = some i → i < ls.length) → walk ls s b r = some a → a < ls.length
  | [], s, b, a, hs, h => hs a h
  | c :: r, s, b, a, hs, h => walk_lt gd r _ c a (fun i hi => nxt_lt gd hi) h
theorem aft_lt {ls : List Ln} (gd : GoodL ls) {zs : List Int} {a : Nat} (h : aft ls zs = some a) : a < ls.length := by
  have one := gd.one
  cases zs with
  | nil => cases h; exact one
  | cons c r => exact walk_lt gd r (some 0) c a (fun i hi => by cases hi; exact one) h
/-- by 1 - c all is the same -/
theorem walk_flip (ls : List Ln) : ∀ (r : List Int) (s : Option Nat) (b : Int), walk ls s (1 - b) (r.map fun c => 1 - c) = walk ls s b r
  | [], s, b => rfl
  | c :: r, s, b => by
    show walk ls (nxt ls s (decide (1 - c = 1 - b))) (1 - c) (r.map fun c => 1 - c) = walk ls (nxt ls s (decide (c = b))) c r
    rw [walk_flip ls r]
    have : decide (1 - c = 1 - b) = decide (c = b) := decide_eq_decide.mpr (by omega)
    rw [this]
theorem aft_flip (ls : List Ln) (zs : List Int) : aft ls (zs.map fun c => 1 - c) = aft ls zs := by
  cases zs with
  | nil => rfl
  | cons c r => exact walk_flip ls r (some 0) c
theorem aft_take {ls : List Ln} {zs : List Int} (n : Nat) (h : (aft ls zs).isSome = true) : (aft ls (zs.take n)).isSome = true := by
  cases n with
  | zero => rfl
  | succ n =>
    cases e : aft ls (zs.take (n + 1)) with
    | some a => rfl
    | none =>
      have := st_none (ls := ls) (zs := zs) (i := n) e
      rw [this] at h
      cases h
/-! ### the defs -/
def spAfter (K : PySem.W.Frag) : Sp := fun vs H Q _ => ∃ (R c : Addr) (refs : List V) (ls : List Ln) (zs : List Int), vs = [.ref R, .ref c] ∧ H R = some (.tup refs) ∧ Ea H isLn refs ls ∧ GoodL ls ∧ Sq K H c (zs.map V.int) ∧ zs.length ≤ 1000 ∧ ∀ H', Same H H' → Q (ev (aft ls zs)) H'
def spHas (K : PySem.W.Frag) (C : Addr) : Sp := fun vs H Q _ => ∃ (p c : Addr) (ls : List Ln) (zs : List Int), vs = [.ref p, .ref c] ∧ SetAt C H p ls ∧ GoodL ls ∧ Sq K H c (zs.map V.int) ∧ zs.length ≤ 1000 ∧ ∀ H', Same H H' → Q (.bl (aft ls zs).isSome) H'
theorem ev_non {o : Option Nat} : decide (ev o = .non) = !o.isSome := by
  cases o <;> rfl
section
variable {P : Program} {w : World} {K : PySem.W.Frag} {mg : Str → Option Value} {base : Heap} {C Fo : Addr}
theorem scAfter : FnScope ["rows", "calls", "state", "before", "call", "same", "other"] ["rows", "calls"] (defScope sAfter) := ⟨rfl, rfl, rfl, by decide +kernel, rfl, by decide +kernel, by decide +kernel⟩
theorem ok_after {f : Addr} {fd : FuncData} (F : Fun K "state_after" "state_after" sAfter f fd) (T : Txt K mg) : FnOk P w K mg base CX0 1 f fd ["rows", "calls"] (spAfter K) := by
  refine F.ok scAfter (fun vs H Q E h => ?_) (fun cdv A outer s H vs Q E hr h => ?_)
  · obtain ⟨R, c, _, _, _, rfl, _⟩ := h
    rfl
  · obtain ⟨R, c, refs, ls, zs, rfl, hR, hE, gd, hc, hz, kk⟩ := h
    refine ⟨_, pss_cons (ps_set (i := 2) scAfter.nd rfl (Or.inl rfl) pe_int)
      (pss_cons (ps_for PassesOwn.never rfl (pi_zipA (by rfl) T.zip_ (pa_cons (pv 1) (pa_cons (pe_slice (sl_list.or sl_tupA) (pv 1) (po_some pe_int) po_none) pa_nil)))
          (pg_tup rfl (pgs_cons (pg_name (i := 3) scAfter.nd rfl (Or.inl rfl)) (pgs_cons (pg_name (i := 4) scAfter.nd rfl (Or.inl rfl)) pgs_nil)))
        (pss_cons (ps_if (pt_cmp (pc_isN (pv 2))) (pss_one (ps_ret pe_non)) pss_nil)
        (pss_cons (ps_asg (pe_slice sl_tupA (pe_ix ix_tup (pv 0) (pv 2) (fun _ _ => rfl)) po_none (po_some pe_int)) (pg_tup rfl (pgs_cons (pg_name (i := 5) scAfter.nd rfl (Or.inl rfl)) (pgs_cons (pg_name (i := 6) scAfter.nd rfl (Or.inl rfl)) pgs_nil))))
        (pss_one (ps_set (i := 2) scAfter.nd rfl (Or.inl rfl) (pe_ifExp (pt_cmpR op_eq (pv 4) (pv 3) (nomark _)) (pv 5) (pv 6)))))))
      (pss_one (ps_ret (pv 2)))), ?_⟩
    obtain ⟨k, hk⟩ := hc.kind
    refine ⟨_, rfl, _, rfl, _, rfl, sl_k hk fun p H1 s1 hp => ?_⟩
    rw [cut_1] at hp
    have hlen : zs.length - 1 = min (zs.map V.int).length ((zs.map V.int).drop 1).length := by
      rw [List.length_drop, List.length_map]
      omega
    have wz := walk_zk (K := K) (k := k) (a := c) (b := p) hlen
    refine ⟨c, p, zs.map V.int, (zs.map V.int).drop 1, rfl, ?_⟩
    cases k
    case' l => refine .inl ⟨hk.up s1, hp, ?_⟩
    case' t => refine .inr ⟨hk.up s1, hp, ?_⟩
    all_goals
      refine for_it wz (fun i σ' H' => ∃ x3 x4 x5 x6, σ' = [some (.ref R), some (.ref c), some (ev (stAt ls zs i)), x3, x4, x5, x6] ∧ Same H1 H') ⟨_, _, _, _, by rw [st_0]; rfl, fun _ _ e => e⟩ (fun i σ' H' _ q => by
        obtain ⟨_, _, _, _, _, s'⟩ := q
        exact ⟨(hk.up s1).up s', hp.up s'⟩) ?_ ?_
      · rintro i _ _ H2 _ hi ⟨x3, x4, x5, x6, rfl, s2⟩ ⟨t, x, y, rfl, ht, rfl, hx, hy⟩
        dsimp only at hx hy
        rw [List.getElem?_map, Option.map_eq_some_iff] at hx
        rw [List.getElem?_drop, Nat.add_comm, List.getElem?_map, Option.map_eq_some_iff] at hy
        obtain ⟨x, hx, rfl⟩ := hx
        obtain ⟨y, hy, rfl⟩ := hy
        have s3 := new_ (o := .tup [.int x, .int y]) ht
        have sm := (s1.trans s2).trans s3
        refine ⟨t, _, rfl, SqT.of upd_same, rfl, _, _, rfl, _, _, rfl, rfl, ?_⟩
        refine ⟨_, rfl, _, rfl, ?_⟩
        rw [ev_non]
        cases hs : stAt ls zs i with
        | none =>
          refine iteT ?_
          have := kk _ sm
          rw [st_none hs] at this
          exact this
        | some a =>
          refine iteF ?_
          have ha := aft_lt gd hs
          obtain ⟨d, hd, hdl⟩ := hE.get (List.getElem?_eq_getElem ha)
          refine ⟨_, rfl, _, rfl, R, refs, (a : Int), _, rfl, rfl, SqT.of (sm _ _ hR), atI_nat hd, ?_⟩
          have hd2 := sm _ _ hdl
          refine ⟨_, rfl, d, _, rfl, SqT.of hd2, fun _ => ?_, fun n => absurd ⟨rfl, rfl⟩ n⟩
          refine ⟨d, _, rfl, SqT.of hd2, rfl, _, _, rfl, _, _, rfl, rfl, ?_⟩
          have st := st_step (ls := ls) hx hy
          rw [hs] at st
          refine ⟨_, rfl, _, rfl, rfl, _, rfl, ifD_2 (fun e => ?_) (fun e => ?_)⟩
          · have e' : y = x := by injection e
            refine ⟨_, rfl, some (.int x), some (.int y), some (ev ls[a].1), some (ev ls[a].2), ?_, s2.trans s3⟩
            rw [st, decide_eq_true e']
            unfold nxt
            rw [Option.bind_some, List.getElem?_eq_getElem ha]
            rfl
          · have e' : ¬ y = x := fun z => e (by rw [z])
            refine ⟨_, rfl, some (.int x), some (.int y), some (ev ls[a].1), some (ev ls[a].2), ?_, s2.trans s3⟩
            rw [st, decide_eq_false e']
            unfold nxt
            rw [Option.bind_some, List.getElem?_eq_getElem ha]
            rfl
      · rintro _ H2 ⟨x3, x4, x5, x6, rfl, s2⟩
        refine ⟨_, rfl, ?_⟩
        rw [st_end (by omega)]
        exact kk H2 (s1.trans s2)
theorem scHas : FnScope ["self", "calls"] ["self", "calls"] (defScope sHas) := ⟨rfl, rfl, rfl, by decide +kernel, rfl, by decide +kernel, by decide +kernel⟩
theorem ok_has {f g : Addr} {fd gd : FuncData} (F : Fun K "__contains__" "RowSet.__contains__" sHas f fd) (T : Txt K mg) (TC : TxtC K mg C Fo) (D : Df K mg "state_after" sAfter g gd ["rows", "calls"]) : FnOk P w K mg base CX0 2 f fd ["self", "calls"] (spHas K C) := by
  have G : FnOk P w K mg base CX0 1 g gd ["rows", "calls"] (spAfter K) := ok_after D.F T
  refine F.ok scHas (fun vs H Q E h => ?_) (fun cdv A outer s H vs Q E hr h => ?_)
  · obtain ⟨p, c, _, _, rfl, _⟩ := h
    rfl
  · obtain ⟨p, c, ls, zs, rfl, ⟨dx, R, refs, hp, hR, hE⟩, gd, hc, hz, kk⟩ := h
    refine ⟨_, pss_one (ps_ret (pe_cmp (pc_notN (pe_call G hr rfl D.M D.F.kp D.B .nil pass0 (pa_cons (pe_fld (pv 0) rfl) (pa_cons (pv 1) pa_nil)))))), ?_⟩
    refine ⟨_, rfl, p, C, dx, _, _, rfl, hp, TC.cl, TC.nR, rsf_rows R, _, rfl, R, c, refs, ls, zs, rfl, hR, hE, gd, hc, hz, fun H' s' => ?_⟩
    show Q (V.bl (!decide (ev (aft ls zs) = .non))) H'
    rw [ev_non, Bool.not_not]
    exact kk H' s'
end
end PA

set_option maxHeartbeats 2000000
namespace PA
open PySem L2 RZ
open C8 (pss_cut tCut)
abbrev sDraw : Stmt := top 30
abbrev sStart : Stmt := top 31
abbrev sPick : Stmt := top 32
abbrev sSame : Stmt := top 33
abbrev sCalls : Stmt := top 34
abbrev sEntry : Stmt := top 35
abbrev sLines : Stmt := top 36
abbrev sBelongs : Stmt := top 37
abbrev sLed : Stmt := top 38
abbrev sLaw : Stmt := top 39
/-! ### data of ints -/
theorem ints_lay : ∀ ns : List Int, PyData.canLayAll0 (ns.map PyData.int) = true
  | [] => by simp [PyData.canLayAll0]
  | z :: zs => by simp [PyData.canLayAll0, PyData.canLay0, ints_lay zs]
theorem ints_depth : ∀ ns : List Int, PyData.depthAll (ns.map PyData.int) ≤ 2
  | [] => by simp [PyData.depthAll]
  | z :: zs => by
    have h1 := ints_depth zs
    simp only [List.map_cons, PyData.depthAll, PyData.depth]
    omega
theorem ints_shaped (ns : List Int) : SeqAt.shaped (.list (ns.map PyData.int)) = true := by
  have h1 := ints_depth ns
  have h2 : PyData.depth (.list (ns.map PyData.int)) ≤ 64 := by
    simp only [PyData.depth]
    omega
  show (PyData.canLay0 (.list (ns.map PyData.int)) && decide (PyData.depth (.list (ns.map PyData.int)) ≤ 64)) = true
  rw [Bool.and_eq_true]
  exact ⟨by simp only [PyData.canLay0]; exact ints_lay ns, decide_eq_true h2⟩
theorem dp_ints {K : PySem.W.Frag} {H : Hp} : ∀ ns : List Int, DpAll K H (ns.map V.int) (ns.map PyData.int)
  | [] => .nil
  | z :: zs => .cons (.int z) (dp_ints zs)
theorem ints_nil (ns : List Int) : PyData.eqv (.list (ns.map PyData.int)) (.list []) = ns.isEmpty := by
  cases ns with
  | nil => simp [PyData.eqv, PyData.eqvAll]
  | cons z zs => simp [PyData.eqv, PyData.eqvAll]
/-! ### the stream of draws: the list at a, the numbers left at l, n draws made -/
def StreamAt (H : Hp) (a l : Addr) (n : Nat) : Prop := a ≠ l ∧ ∃ (ns : List Int) (x z : Int), H a = some (.lst [.ref l, .int x, .int (n : Int), .int z]) ∧ H l = some (.lst (ns.map V.int)) ∧ ns.length ≤ 63 ∧ 0 ≤ x ∧ 0 ≤ z ∧ z < 2147483647
/-- all but the stream is kept -/
def Keep (a l : Addr) (H H' : Hp) : Prop := ∀ c o, c ≠ a → c ≠ l → H c = some o → H' c = some o
theorem Keep.refl (a l : Addr) (H : Hp) : Keep a l H H := fun _ _ _ _ h => h
theorem Keep.trans {a l : Addr} {H H1 H2 : Hp} (h : Keep a l H H1) (h' : Keep a l H1 H2) : Keep a l H H2 := fun c o x y e => h' c o x y (h c o x y e)
theorem Keep.of {a l : Addr} {H H' : Hp} (h : Same H H') : Keep a l H H' := fun c o _ _ e => h c o e
theorem StreamAt.same {H H' : Hp} {a l : Addr} {n : Nat} (h : StreamAt H a l n) (s : Same H H') : StreamAt H' a l n := by
  obtain ⟨ne, ns, x, z, h1, h2, h3⟩ := h
  exact ⟨ne, ns, x, z, s _ _ h1, s _ _ h2, h3⟩
def spDraw : Sp := fun vs H Q _ => ∃ (a l : Addr) (n : Nat) (many : Int), vs = [.ref a, .int many] ∧ StreamAt H a l n ∧ n ≤ 100000 ∧ 0 < many ∧ Sm 9000 many ∧
  ∀ (r : Int) (H' : Hp), 0 ≤ r → r < many → StreamAt H' a l (n + 1) → Keep a l H H' → Q (.int r) H'
section
variable {P : Program} {w : World} {K : PySem.W.Frag} {mg : Str → Option Value} {base : Heap} {C : Addr}
theorem scDraw : FnScope ["_law_stream", "_law_many", "_law_digit", "_law_mixed"] ["_law_stream", "_law_many"] (defScope sDraw) := ⟨rfl, rfl, rfl, by decide +kernel, rfl, by decide +kernel, by decide +kernel⟩
theorem ok_draw {f : Addr} {fd : FuncData} (F : Fun K "_law_draw" "_law_draw" sDraw f fd) (T : Txt K mg) : FnOk P w K mg base CX0 1 f fd ["_law_stream", "_law_many"] spDraw := by
  refine F.ok scDraw (fun vs H Q E h => ?_) (fun cdv A outer s H vs Q E hr h => ?_)
  · obtain ⟨a, l, n, many, rfl, _⟩ := h
    rfl
  · obtain ⟨a, l, n, many, rfl, ⟨ne, ns, x, z, h1, h2, hl, hx, hz0, hz1⟩, hn, hm, hms, k⟩ := h
    have hW : ∀ j : Int, CDivW j many := fun j => ⟨hm, Nat.lt_of_lt_of_le (PySem.Flt.log2_lt_of (by decide) hms) (Nat.le_refl _)⟩
    refine ⟨_, pss_cut (ps_asg (pe_op op_add (pe_ix ix_list (pv 0) pe_int (fun _ _ => rfl)) pe_int) (pg_sub (pv 0) pe_int set_list))
      (pss_cut (ps_if (PW.pt (pw_and (pt_cmpR op_eq (pe_ix ix_list (pv 0) pe_int (fun _ _ => rfl)) pe_int (nomark _)) (pw_and1 (pt_cmpR (op_neD hr.units) (pe_ix ix_list (pv 0) pe_int (fun _ _ => rfl)) (pe_lst pa_nil) (nomark _)))))
        (pss_cons (ps_asg (pe_bm PySem.F.plainAttrs_list PySem.F.slot_list_pop PySem.F.type_list_pop mt_popAt (pe_ix ix_list (pv 0) pe_int (fun _ _ => rfl)) (pa_cons pe_int pa_nil)) (pg_sub (pv 0) pe_int set_list))
          (pss_one (ps_if (pt_cmpR op_lt (pe_ix ix_list (pv 0) pe_int (fun _ _ => rfl)) (pe_op op_pow pe_int pe_int) (nomark _))
            (pss_cons (ps_asg (pe_op op_mod (pe_callTy call_int1 (by rfl) T.int_ boot_int' (pa_cons (pe_op op_add (pe_op op_add (pe_op op_mul (pe_ix ix_list (pv 0) pe_int (fun _ _ => rfl)) pe_int) (pe_ix ix_list (pv 0) pe_int (fun _ _ => rfl))) pe_int) pa_nil)) pe_int) (pg_sub (pv 0) pe_int set_list))
              (pss_one (ps_asg pe_int (pg_sub (pv 0) pe_int set_list)))) pss_nil))) pss_nil)
      (pss_cons (ps_if (pt_cmpR op_gt (pe_ix ix_list (pv 0) pe_int (fun _ _ => rfl)) pe_int (nomark _))
        (pss_cons (ps_set (i := 2) scDraw.nd rfl (Or.inl rfl) (pe_op op_mod (pe_callTy call_int1 (by rfl) T.int_ boot_int' (pa_cons (pe_ix ix_list (pv 0) pe_int (fun _ _ => rfl)) pa_nil)) (pv 1)))
          (pss_cons (ps_asg (pe_op op_fdivW (pe_ix ix_list (pv 0) pe_int (fun _ _ => rfl)) (pv 1)) (pg_sub (pv 0) pe_int set_list))
            (pss_one (ps_ret (pv 2))))) pss_nil)
      (pss_cons (ps_set (i := 3) scDraw.nd rfl (Or.inl rfl) (pe_op op_mod (pe_op op_pow (pe_op op_add (pe_op op_add (pe_ix ix_list (pv 0) pe_int (fun _ _ => rfl)) (pe_op op_mul pe_int (pe_ix ix_list (pv 0) pe_int (fun _ _ => rfl)))) pe_int) pe_int) pe_int))
      (pss_one (ps_ret (pe_op op_mod (pe_op op_mod (pe_op op_pow (pe_op op_add (pe_op op_add (pe_op op_mul (pv 3) pe_int) (pe_op op_mul (pe_op op_mul pe_int (pe_ix ix_list (pv 0) pe_int (fun _ _ => rfl))) (pe_ix ix_list (pv 0) pe_int (fun _ _ => rfl)))) pe_int) pe_int) pe_int) (pv 1))))))), ?_⟩
    refine ⟨fun σ' H' => σ' = [some (V.ref a), some (V.int many), none, none] ∧ H' = upd H a (.lst [.ref l, .int x, .int ((n : Int) + 1), .int z]), ?_, ?_⟩
    · exact ⟨_, rfl, a, _, 2, _, rfl, rfl, SqL.of h1, rfl, _, _, rfl, rfl, _, rfl, a, _, 2, 2, rfl, rfl, h1, rfl, rfl, rfl⟩
    rintro _ _ ⟨rfl, rfl⟩
    refine ⟨fun σ' H' => σ' = [some (V.ref a), some (V.int many), none, none] ∧ ∃ (ns' : List Int) (x' z' : Int), H' a = some (.lst [.ref l, .int x', .int ((n : Int) + 1), .int z']) ∧ H' l = some (.lst (ns'.map V.int)) ∧ ns'.length ≤ 63 ∧ 0 ≤ x' ∧ 0 ≤ z' ∧ z' < 2147483647 ∧ Keep a l H H', ?_, ?_⟩
    · have kp1 : Keep a l H (upd H a (.lst [.ref l, .int x, .int ((n : Int) + 1), .int z])) := fun c o ca _ e => by rw [upd_ne ca]; exact e
      have hl1 : (upd H a (.lst [.ref l, .int x, .int ((n : Int) + 1), .int z])) l = some (.lst (ns.map V.int)) := by rw [upd_ne ne.symm]; exact h2
      refine ⟨_, rfl, a, _, 1, _, rfl, rfl, SqL.of upd_same, rfl, rfl, _, rfl, ifD_2 (fun hx0 => ?_) (fun _ => iteF ?_)⟩
      · refine ⟨_, rfl, a, _, 0, _, rfl, rfl, SqL.of upd_same, rfl, Nat.zero_le _, fun p hp => ?_⟩
        have npa : a ≠ p := fun e => by rw [← e, upd_same] at hp; cases hp
        have npl : l ≠ p := ne_of_none hl1 hp
        have kp2 : Keep a l H (upd (upd H a (.lst [.ref l, .int x, .int ((n : Int) + 1), .int z])) p (.lst [])) := fun c o ca cl e => by
          rw [upd_ne (ne_of_none (kp1 c o ca cl e) hp)]; exact kp1 c o ca cl e
        refine ⟨.list (ns.map PyData.int), .list [], .lst (SqL.of (by rw [upd_ne npl]; exact hl1)) (dp_ints ns), .lst (SqL.of upd_same) .nil, ints_shaped ns, ints_shaped [], _, rfl, ?_⟩
        rw [ints_nil]
        cases ns with
        | nil => exact iteF ⟨rfl, [], x, z, by rw [upd_ne npa, upd_same], by rw [upd_ne npl]; exact hl1, Nat.zero_le _, hx, hz0, hz1, kp2⟩
        | cons y ys =>
          refine iteT ?_
          have ga : (upd (upd H a (.lst [.ref l, .int x, .int ((n : Int) + 1), .int z])) p (.lst [])) a = some (.lst [.ref l, .int x, .int ((n : Int) + 1), .int z]) := by rw [upd_ne npa, upd_same]
          have gl : (upd (upd H a (.lst [.ref l, .int x, .int ((n : Int) + 1), .int z])) p (.lst [])) l = some (.lst ((y :: ys).map V.int)) := by rw [upd_ne npl]; exact hl1
          generalize (upd (upd H a (.lst [.ref l, .int x, .int ((n : Int) + 1), .int z])) p (.lst [])) = Hb at ga gl kp2
          refine ⟨_, rfl, a, _, 0, _, rfl, rfl, SqL.of ga, rfl, .inl ⟨rfl, _, SqL.of gl⟩, l, _, 0, 0, .int y, rfl, rfl, gl, by decide, by decide, (ixN_seq (Evl.ixN_nat (j := 0) (by simp))).1, rfl, ?_⟩
          have ga2 : (upd Hb l (.lst (((y :: ys).map V.int).eraseIdx 0))) a = some (.lst [.ref l, .int x, .int ((n : Int) + 1), .int z]) := by rw [upd_ne ne]; exact ga
          refine ⟨_, rfl, a, _, 1, 1, rfl, rfl, ga2, rfl, ?_⟩
          have kp3 : ∀ o, Keep a l H (upd (upd Hb l (.lst (((y :: ys).map V.int).eraseIdx 0))) a o) := fun o c u ca cl e => by rw [upd_ne ca, upd_ne cl]; exact kp2 c u ca cl e
          have gl3 : ∀ o, (upd (upd Hb l (.lst (((y :: ys).map V.int).eraseIdx 0))) a o) l = some (.lst (ys.map V.int)) := fun o => by rw [upd_ne ne.symm, upd_same]; rfl
          have hys : ys.length ≤ 63 := Nat.le_trans (Nat.le_succ _) hl
          refine ⟨_, rfl, a, _, 1, _, rfl, rfl, SqL.of upd_same, rfl, 10, 18, rfl, rfl, (by show CPow 10 18; unfold CPow; decide), _, _, rfl, rfl, _, rfl, ifD_2 (fun hy => ?_) (fun hy => ?_)⟩
          · refine ⟨_, rfl, a, _, 3, _, rfl, rfl, SqL.of upd_same, rfl, _, _, rfl, rfl, .inr (by decide), _, rfl, a, _, 1, _, rfl, rfl, SqL.of upd_same, rfl, _, _, rfl, rfl, _, _, rfl, rfl, .inl ⟨_, rfl, _, _, rfl, rfl, (by show (0 : Int) < 2147483647; decide), _, rfl, a, _, 3, 3, rfl, rfl, upd_same, rfl, ?_⟩⟩
            refine ⟨_, rfl, a, _, 1, 1, rfl, rfl, upd_same, rfl, ?_⟩
            rw [upd_upd, upd_upd]
            exact ⟨rfl, ys, 0, (z * 31 + y + 7) % 2147483647, upd_same, gl3 _, hys, by decide, Int.emod_nonneg _ (by decide), Int.emod_lt_of_pos _ (by decide), kp3 _⟩
          · exact ⟨rfl, ys, y, z, upd_same, gl3 _, hys, by
              have h18 : (0 : Int) ≤ 10 ^ (18 : Int).toNat := by decide
              omega, hz0, hz1, kp3 _⟩
      · exact ⟨rfl, ns, x, z, upd_same, hl1, hl, hx, hz0, hz1, kp1⟩
    rintro _ H1 ⟨rfl, ns', x', z', g1, g2, gl, gx, gz0, gz1, kp⟩
    refine ⟨_, rfl, a, _, 1, _, rfl, rfl, SqL.of g1, rfl, _, _, rfl, rfl, _, rfl, ifD_2 (fun hp => ?_) (fun _ => ?_)⟩
    · refine ⟨_, rfl, a, _, 1, _, rfl, rfl, SqL.of g1, rfl, .inl ⟨_, rfl, _, rfl, _, _, rfl, rfl, hm, ?_⟩⟩
      refine ⟨_, rfl, a, _, 1, _, rfl, rfl, SqL.of g1, rfl, _, rfl, _, _, rfl, rfl, hW _, _, rfl, a, _, 1, 1, rfl, rfl, g1, rfl, _, rfl, ?_⟩
      refine k (x' % many) _ (Int.emod_nonneg _ (by omega)) (Int.emod_lt_of_pos _ hm) ⟨ne, ns', x' / many, z', upd_same, by rw [upd_ne ne.symm]; exact g2, gl, Int.ediv_nonneg gx (by omega), gz0, gz1⟩ fun c o ca cl e => by
        rw [upd_ne ca]; exact kp c o ca cl e
    · have hn' : (n : Int) ≤ 100000 := by omega
      have hn0 : (0 : Int) ≤ n := by omega
      refine ⟨_, rfl, a, _, 3, _, rfl, rfl, SqL.of g1, rfl, _, rfl, a, _, 2, _, rfl, rfl, SqL.of g1, rfl, _, _, rfl, rfl, .inl (by decide), _, _, rfl, rfl, _, _, rfl, rfl, _, _, rfl, rfl, ?_, _, _, rfl, rfl, (by show (0 : Int) < 2147483629; decide), ?_⟩
      · show CPow _ 5
        refine ⟨by decide, by decide, ?_⟩
        have e64 : (2 : Nat) ^ 64 = 18446744073709551616 := by decide
        rw [e64]
        omega
      · generalize hmx : ((z' + 104729 * ((n : Int) + 1) + 17) ^ (5 : Int).toNat) % 2147483629 = mx
        have m0 : 0 ≤ mx := by rw [← hmx]; exact Int.emod_nonneg _ (by decide)
        have m1 : mx < 2147483629 := by rw [← hmx]; exact Int.emod_lt_of_pos _ (by decide)
        refine ⟨_, rfl, _, _, rfl, rfl, .inr (by decide), _, rfl, a, _, 2, _, rfl, rfl, SqL.of g1, rfl, _, _, rfl, rfl, .inl (by decide), _, rfl, a, _, 2, _, rfl, rfl, SqL.of g1, rfl, _, _, rfl, rfl, .inr ?_, _, _, rfl, rfl, _, _, rfl, rfl, _, _, rfl, rfl, ?_, _, _, rfl, rfl, (by show (0 : Int) < 1000000007; decide), _, rfl, _, _, rfl, rfl, hm, ?_⟩
        · have e64 : (2 : Int) ^ 64 = 18446744073709551616 := by decide
          rw [e64]
          omega
        · show CPow _ 3
          refine ⟨by decide, by decide, ?_⟩
          have e64 : (2 : Nat) ^ 64 = 18446744073709551616 := by decide
          rw [e64]
          have q0 : 0 ≤ 40503 * ((n : Int) + 1) * ((n : Int) + 1) := Int.mul_nonneg (by omega) (by omega)
          have q1 : 40503 * ((n : Int) + 1) * ((n : Int) + 1) ≤ 40503 * 100001 * 100001 := Int.mul_le_mul (by omega) (by omega) (by omega) (by decide)
          omega
        · exact k _ _ (Int.emod_nonneg _ (by omega)) (Int.emod_lt_of_pos _ hm) ⟨ne, ns', x', z', g1, g2, gl, gx, gz0, gz1⟩ kp
end
theorem sm9000 {x : Int} {n : Nat} (h : Sm n x) (hn : n ≤ 9000) : Sm 9000 x := h.mono hn
theorem sm_small {x : Int} (h : x.natAbs < 8) : Sm 9000 x := sm9000 (n := 3) h (by decide)
def spStart (K : PySem.W.Frag) : Sp := fun vs H Q _ => ∃ (p : Addr) (ns : List Int), vs = [.ref p] ∧ SqL K H p (ns.map V.int) ∧ ns.length ≤ 63 ∧ ∀ (a l : Addr) (H' : Hp), StreamAt H' a l 0 → H a = none → H l = none → Same H H' → Q (.ref a) H'
section
variable {P : Program} {w : World} {K : PySem.W.Frag} {mg : Str → Option Value} {base : Heap} {C : Addr}
theorem scStart : FnScope ["_law_script"] ["_law_script"] (defScope sStart) := ⟨rfl, rfl, rfl, by decide +kernel, rfl, by decide +kernel, by decide +kernel⟩
theorem ok_start {f : Addr} {fd : FuncData} (F : Fun K "_law_start" "_law_start" sStart f fd) (T : Txt K mg) : FnOk P w K mg base CX0 1 f fd ["_law_script"] (spStart K) := by
  refine F.ok scStart (fun vs H Q E h => ?_) (fun cdv A outer s H vs Q E hr h => ?_)
  · obtain ⟨p, ns, rfl, _⟩ := h
    rfl
  · obtain ⟨p, ns, rfl, hS, hl, k⟩ := h
    refine ⟨_, pss_one (ps_ret (pe_lst (pa_cons (pe_callTy call_list_of (by rfl) T.list_ boot_list' (pa_cons (pv 0) pa_nil)) (pa_cons pe_int (pa_cons pe_int (pa_cons pe_int pa_nil)))))), ?_⟩
    refine ⟨_, rfl, p, _, rfl, .inl hS, fun l hl' => ⟨by show 4 ≤ sizeLine; decide, fun a ha => ?_⟩⟩
    have nal : a ≠ l := fun e => by rw [e, upd_same] at ha; cases ha
    have ha0 : H a = Option.none := by rw [upd_ne nal] at ha; exact ha
    exact k a l _ ⟨nal, ns, 0, 0, upd_same, by rw [upd_ne nal.symm, upd_same], hl, by decide, by decide, by decide⟩ ha0 hl' ((new_ hl').trans (new_ ha))
end
theorem StreamAt.ne {H : Hp} {a l p : Addr} {n : Nat} (S : StreamAt H a l n) (h : H p = none) : p ≠ a ∧ p ≠ l := by
  obtain ⟨ne, ns, x, z, h1, h2, _⟩ := S
  exact ⟨(ne_of_none h1 h).symm, (ne_of_none h2 h).symm⟩
theorem sm48 {z : Int} (h1 : 1 ≤ z) (h2 : z ≤ 48) : Sm 9000 z := by
  refine sm9000 (n := 6) ?_ (by decide)
  have e : (2 : Nat) ^ 6 = 64 := by decide
  show z.natAbs < 2 ^ 6
  rw [e]
  omega
theorem StreamAt.at_ {H : Hp} {a l : Addr} {n m : Nat} (S : StreamAt H a l n) (e : n = m) : StreamAt H a l m := e ▸ S
theorem StreamAt.lst {H : Hp} {a l p : Addr} {n : Nat} {xs ys : List V} (S : StreamAt H a l n) (hp : H p = some (.lst xs)) (pa : p ≠ a) (pl : p ≠ l) : StreamAt (upd H p (.lst ys)) a l n := by
  obtain ⟨ne, ns, x, z, h1, h2, h3⟩ := S
  exact ⟨ne, ns, x, z, by rw [upd_ne pa.symm]; exact h1, by rw [upd_ne pl.symm]; exact h2, h3⟩

def spPick : Sp := fun vs H Q _ => ∃ (a l L : Addr) (n : Nat) (xs : List V), vs = [.ref a, .ref L] ∧ StreamAt H a l n ∧ n ≤ 20000 ∧ H L = some (.lst xs) ∧ L ≠ a ∧ L ≠ l ∧ 1 ≤ xs.length ∧ xs.length ≤ 48 ∧
  ∀ (i : Nat) (x : V) (H' : Hp), xs[i]? = some x → StreamAt H' a l (n + 1) → Keep a l H H' → Q x H'
section
variable {P : Program} {w : World} {K : PySem.W.Frag} {mg : Str → Option Value} {base : Heap} {C : Addr}
theorem scPick : FnScope ["_law_stream", "_law_some"] ["_law_stream", "_law_some"] (defScope sPick) := ⟨rfl, rfl, rfl, by decide +kernel, rfl, by decide +kernel, by decide +kernel⟩
theorem ok_pick {f g : Addr} {fd gd : FuncData} (F : Fun K "_law_pick" "_law_pick" sPick f fd) (T : Txt K mg) (D : Df K mg "_law_draw" sDraw g gd ["_law_stream", "_law_many"]) : FnOk P w K mg base CX0 2 f fd ["_law_stream", "_law_some"] spPick := by
  have G : FnOk P w K mg base CX0 1 g gd ["_law_stream", "_law_many"] spDraw := ok_draw D.F T
  refine F.ok scPick (fun vs H Q E h => ?_) (fun cdv A outer s H vs Q E hr h => ?_)
  · obtain ⟨a, l, L, n, _, rfl, _⟩ := h
    rfl
  · obtain ⟨a, l, L, n, xs, rfl, S0, hn, hL, La, Ll, h1, h48, kk⟩ := h
    refine ⟨_, pss_one (ps_ret (pe_ix ix_list (pv 1) (pe_call G hr rfl D.M D.F.kp D.B .nil pass0 (pa_cons (pv 0) (pa_cons (pe_callB call_len_seq (by rfl) T.len_ PySem.boot_len (pa_cons (pv 1) pa_nil)) pa_nil))) (fun _ _ => rfl))), ?_⟩
    refine ⟨_, rfl, _, rfl, _, rfl, L, xs, rfl, .inl (SqL.of hL), a, l, n, _, rfl, S0, by omega, by omega, sm48 (by omega) (by omega), fun r H1 r0 r1 S1 kp1 => ?_⟩
    have hi : r.toNat < xs.length := by omega
    have hx : xs[r.toNat]? = some xs[r.toNat] := List.getElem?_eq_getElem hi
    have ha := atI_nat hx
    rw [Int.toNat_of_nonneg r0] at ha
    exact ⟨L, xs, r, _, rfl, rfl, SqL.of (kp1 _ _ La Ll hL), ha, kk _ _ H1 hx S1 kp1⟩
end
end PA

set_option maxHeartbeats 4000000
namespace PA
open PySem L2 RZ
/-! ### a comprehension over zip -/
section
variable {K : PySem.W.Frag} {a b : Addr} {xs ys : List V} {g : TG} {tt : TT} {te : TE} {vs : List Nat} {σ : L2.St} {H1 : Hp} {D : Addr} {Qd : Hp → Prop}
theorem lc_zipL (hl : xs.length = ys.length) (Pv : Nat → Hp → Prop) (h0 : Pv 0 (upd H1 D (.lst []))) (hq : ∀ i H, Pv i H → SqL K H a xs ∧ SqL K H b ys)
    (hs : ∀ (i : Nat) (x y : V) (T : Addr) (H : Hp), xs[i]? = some x → ys[i]? = some y → Pv i H → H T = none → g (.ref T) (wipe σ vs) (upd H T (.tup [x, y])) fun σ2 H2 => wipe σ2 vs = wipe σ vs ∧ tt σ2 H2 fun c H3 =>
      if c = true then te σ2 H3 fun z H4 => ∃ acc, H4 D = some (.lst acc) ∧ acc.length < sizeLine ∧ Pv (i + 1) (upd H4 D (.lst (acc ++ [z]))) else Pv (i + 1) H3) (hd : ∀ H, Pv xs.length H → Qd H) :
    ∃ W : Nat → Nat → Hp → Prop, (∃ m, W 0 m (upd H1 D (.lst []))) ∧ ∀ i m H, W i m H →
      ((Itz K a b).stop i H ∧ Qd H) ∨ ((Itz K a b).go i H ∧ ∃ Nx : Hp → Prop, (∀ H', Nx H' → ∃ m', m' < m ∧ W (i + 1) m' H') ∧ ∀ x H', (Itz K a b).yld i H x H' → g x (wipe σ vs) H' fun σ2 H2 => wipe σ2 vs = wipe σ vs ∧ tt σ2 H2 fun c H3 =>
        if c = true then te σ2 H3 fun z H4 => ∃ acc, H4 D = some (.lst acc) ∧ acc.length < sizeLine ∧ Nx (upd H4 D (.lst (acc ++ [z]))) else Nx H3) := by
  refine ⟨fun i m H => m = xs.length - i ∧ i ≤ xs.length ∧ Pv i H, ⟨xs.length, rfl, Nat.zero_le _, h0⟩, ?_⟩
  rintro i m H ⟨rfl, hi, p⟩
  obtain ⟨qx, qy⟩ := hq i H p
  by_cases hlt : i < xs.length
  · have hx : xs[i]? = some xs[i] := List.getElem?_eq_getElem hlt
    have hlt2 : i < ys.length := by omega
    have hy : ys[i]? = some ys[i] := List.getElem?_eq_getElem hlt2
    refine .inr ⟨⟨xs, ys, _, _, qx, qy, hx, hy⟩, Pv (i + 1), fun H' p' => ⟨xs.length - (i + 1), by omega, rfl, hlt, p'⟩, fun v H' y => ?_⟩
    obtain ⟨T, x', y', rfl, hT, rfl, f1, f2⟩ := y
    exact hs i x' y' T H (f1 xs qx) (f2 ys qy) p hT
  · have e : i = xs.length := by omega
    subst e
    exact .inl ⟨⟨xs, ys, qx, qy, Or.inl (Nat.le_refl _)⟩, hd H p⟩
theorem lc_zipT (hl : xs.length = ys.length) (Pv : Nat → Hp → Prop) (h0 : Pv 0 (upd H1 D (.lst []))) (hq : ∀ i H, Pv i H → SqT K H a xs ∧ SqT K H b ys)
    (hs : ∀ (i : Nat) (x y : V) (T : Addr) (H : Hp), xs[i]? = some x → ys[i]? = some y → Pv i H → H T = none → g (.ref T) (wipe σ vs) (upd H T (.tup [x, y])) fun σ2 H2 => wipe σ2 vs = wipe σ vs ∧ tt σ2 H2 fun c H3 =>
      if c = true then te σ2 H3 fun z H4 => ∃ acc, H4 D = some (.lst acc) ∧ acc.length < sizeLine ∧ Pv (i + 1) (upd H4 D (.lst (acc ++ [z]))) else Pv (i + 1) H3) (hd : ∀ H, Pv xs.length H → Qd H) :
    ∃ W : Nat → Nat → Hp → Prop, (∃ m, W 0 m (upd H1 D (.lst []))) ∧ ∀ i m H, W i m H →
      ((ItzT K a b).stop i H ∧ Qd H) ∨ ((ItzT K a b).go i H ∧ ∃ Nx : Hp → Prop, (∀ H', Nx H' → ∃ m', m' < m ∧ W (i + 1) m' H') ∧ ∀ x H', (ItzT K a b).yld i H x H' → g x (wipe σ vs) H' fun σ2 H2 => wipe σ2 vs = wipe σ vs ∧ tt σ2 H2 fun c H3 =>
        if c = true then te σ2 H3 fun z H4 => ∃ acc, H4 D = some (.lst acc) ∧ acc.length < sizeLine ∧ Nx (upd H4 D (.lst (acc ++ [z]))) else Nx H3) := by
  refine ⟨fun i m H => m = xs.length - i ∧ i ≤ xs.length ∧ Pv i H, ⟨xs.length, rfl, Nat.zero_le _, h0⟩, ?_⟩
  rintro i m H ⟨rfl, hi, p⟩
  obtain ⟨qx, qy⟩ := hq i H p
  by_cases hlt : i < xs.length
  · have hx : xs[i]? = some xs[i] := List.getElem?_eq_getElem hlt
    have hlt2 : i < ys.length := by omega
    have hy : ys[i]? = some ys[i] := List.getElem?_eq_getElem hlt2
    refine .inr ⟨⟨xs, ys, _, _, qx, qy, hx, hy⟩, Pv (i + 1), fun H' p' => ⟨xs.length - (i + 1), by omega, rfl, hlt, p'⟩, fun v H' y => ?_⟩
    obtain ⟨T, x', y', rfl, hT, rfl, f1, f2⟩ := y
    exact hs i x' y' T H (f1 xs qx) (f2 ys qy) p hT
  · have e : i = xs.length := by omega
    subst e
    exact .inl ⟨⟨xs, ys, qx, qy, Or.inl (Nat.le_refl _)⟩, hd H p⟩
end
/-! ### two values that are the same, to the depth n: ints, bools, lists and tuples of such -/
inductive Two (K : PySem.W.Frag) (H : Hp) : Nat → V → V → Prop where
  | bl (n : Nat) (b : Bool) : Two K H n (.bl b) (.bl b)
  | int (n : Nat) (i : Int) : Two K H n (.int i) (.int i)
  | non (n : Nat) : Two K H n .non .non
  | str (n : Nat) (x : Str) : Two K H n (.str x) (.str x)
  | lst {n : Nat} {a b : Addr} {xs ys : List V} (ha : H a = some (.lst xs)) (hb : H b = some (.lst ys)) (hl : xs.length = ys.length) (hsz : xs.length ≤ sizeLine) (hi : ∀ (i : Nat) (x y : V), xs[i]? = some x → ys[i]? = some y → Two K H n x y) : Two K H (n + 1) (.ref a) (.ref b)
  | tup {n : Nat} {a b : Addr} {xs ys : List V} (ha : SqT K H a xs) (hb : SqT K H b ys) (hl : xs.length = ys.length) (hsz : xs.length ≤ sizeLine) (hi : ∀ (i : Nat) (x y : V), xs[i]? = some x → ys[i]? = some y → Two K H n x y) : Two K H (n + 1) (.ref a) (.ref b)
theorem Two.same {K : PySem.W.Frag} {H H' : Hp} {n : Nat} {x y : V} (t : Two K H n x y) (s : Same H H') : Two K H' n x y := by
  induction t with
  | bl n b => exact .bl n b
  | int n i => exact .int n i
  | non n => exact .non n
  | str n x => exact .str n x
  | lst ha hb hl hz _ ih => exact .lst (s _ _ ha) (s _ _ hb) hl hz ih
  | tup ha hb hl hz _ ih => exact .tup (SqT.up ha s) (SqT.up hb s) hl hz ih
theorem tyT {K : PySem.W.Frag} {H : Hp} {a : Addr} {xs : List V} (h : SqT K H a xs) : TyX K H (.ref a) (.type "tuple") := by
  rcases h with (h | ⟨ob, h⟩) | ⟨o, its, n, h1, h2, _⟩
  · exact .base (.tup h)
  · exact .fTuple h
  · exact .kTuple h1 h2
def spSame (K : PySem.W.Frag) (n : Nat) : Sp := fun vs H Q _ => ∃ x y, vs = [x, y] ∧ Two K H n x y ∧ ∀ H', Same H H' → Q (.bl true) H'
section
variable {P : Program} {w : World} {K : PySem.W.Frag} {mg : Str → Option Value} {base : Heap} {C : Addr}
theorem scSame : FnScope ["_law_found", "_law_due", "_law_one", "_law_other"] ["_law_found", "_law_due"] (defScope sSame) := ⟨rfl, rfl, rfl, by decide +kernel, rfl, by decide +kernel, by decide +kernel⟩
theorem kit2 {t : String} {b1 b2 r : Bool} (h1 : kitB t "list" = some b1) (h2 : kitB t "tuple" = some b2) (hr : (b1 || b2) = r) : PySem.W.kitAny K (.type t) [.type "list", .type "tuple"] = some r := by
  subst hr
  refine kitAny_cons (b := b1) (kit_ty h1) (fun e => ?_) (fun e => by rw [e]; rfl)
  subst e
  refine kitAny_cons (b := b2) (kit_ty h2) (fun e => ?_) (fun e => by rw [e]; rfl)
  subst e
  exact kitAny_nil
theorem kit3 {t : String} (h1 : kitB t "int" = some false) (h2 : kitB t "list" = some false) (h3 : kitB t "tuple" = some false) : PySem.W.kitAny K (.type t) [.type "int", .type "list", .type "tuple"] = some false := by
  refine kitAny_cons (b := false) (kit_ty h1) (fun _ => ?_) (fun e => by cases e)
  refine kitAny_cons (b := false) (kit_ty h2) (fun _ => ?_) (fun e => by cases e)
  refine kitAny_cons (b := false) (kit_ty h3) (fun _ => ?_) (fun e => by cases e)
  exact kitAny_nil
theorem ok_same {f : Addr} {fd : FuncData} (D : Df K mg "_law_same" sSame f fd ["_law_found", "_law_due"]) (T : Txt K mg) : ∀ n : Nat, FnOk P w K mg base CX0 (n + 1) f fd ["_law_found", "_law_due"] (spSame K n) := by
  have hlen : ∀ n, ∀ vs H Q E, spSame K n vs H Q E → vs.length = (["_law_found", "_law_due"] : List Str).length := fun n vs H Q E h => by
    obtain ⟨x, y, rfl, _⟩ := h
    rfl
  intro n
  induction n with
  | zero =>
    refine D.F.ok scSame (hlen 0) (fun cdv A outer s H vs Q E hr h => ?_)
    obtain ⟨x, y, rfl, t, k⟩ := h
    cases t with
    | int _ i =>
      refine ⟨_, pss_cons (ps_if (pt_val (pe_callB call_isiT (by rfl) T.isi boot_isi (pa_cons (pv 1) (pa_cons (pe_tup (pa_cons (pe_bltn (v := .ty "list") (by rfl) T.list_ boot_list' rfl) (pa_cons (pe_bltn (v := .ty "tuple") (by rfl) T.tup_ boot_tuple' rfl) pa_nil))) pa_nil)))) pss_never pss_nil)
      (pss_cons (ps_if (pt_val (pe_callB call_isi (by rfl) T.isi boot_isi (pa_cons (pv 1) (pa_cons (pe_bltn (v := .ty "int") (by rfl) T.int_ boot_int' rfl) pa_nil))))
        (pss_one (ps_ret (pe_and (pe_callB call_isi (by rfl) T.isi boot_isi (pa_cons (pv 0) (pa_cons (pe_bltn (v := .ty "int") (by rfl) T.int_ boot_int' rfl) pa_nil)))
          (pe_and (pe_cmpR op_eq (pe_callB call_isi (by rfl) T.isi boot_isi (pa_cons (pv 0) (pa_cons (pe_bltn (v := .ty "bool") (by rfl) T.bool_ boot_bool' rfl) pa_nil))) (pe_callB call_isi (by rfl) T.isi boot_isi (pa_cons (pv 1) (pa_cons (pe_bltn (v := .ty "bool") (by rfl) T.bool_ boot_bool' rfl) pa_nil))) (nomark _))
            (pe_one (pe_cmpR op_eq (pv 0) (pv 1) (nomark _))))))) pss_nil) pss_never), ?_⟩
      refine ⟨_, rfl, by show 2 ≤ sizeLine; decide, fun tp htp => ⟨_, tp, _, _, [.type "list", .type "tuple"], _, rfl, upd_same, .cons (.ty _) (.cons (.ty _) .nil), .base (.int i), kit2 (b1 := false) (b2 := false) (by decide +kernel) (by decide +kernel) rfl, _, rfl, iteF ?_⟩⟩
      refine ⟨_, rfl, _, _, _, _, _, rfl, .ty _, .base (.int i), kit_ty (b := "int") (r := true) (by decide +kernel), _, rfl, iteT ?_⟩
      refine ⟨_, rfl, _, _, _, _, _, rfl, .ty _, .base (.int i), kit_ty (b := "int") (r := true) (by decide +kernel), _, rfl, iteT ?_⟩
      refine ⟨_, rfl, _, _, _, _, _, rfl, .ty _, .base (.int i), kit_ty (b := "bool") (r := false) (by decide +kernel), _, rfl, _, _, _, _, _, rfl, .ty _, .base (.int i), kit_ty (b := "bool") (r := false) (by decide +kernel), rfl, _, rfl, ifD_yes rfl ?_⟩
      refine ⟨_, rfl, _, rfl, rfl, ?_⟩
      show Q (V.bl (decide (V.int i = V.int i))) _
      rw [decide_eq_true rfl]
      exact k _ (new_ htp)
    | bl _ b =>
      refine ⟨_, pss_cons (ps_if (pt_val (pe_callB call_isiT (by rfl) T.isi boot_isi (pa_cons (pv 1) (pa_cons (pe_tup (pa_cons (pe_bltn (v := .ty "list") (by rfl) T.list_ boot_list' rfl) (pa_cons (pe_bltn (v := .ty "tuple") (by rfl) T.tup_ boot_tuple' rfl) pa_nil))) pa_nil)))) pss_never pss_nil)
      (pss_cons (ps_if (pt_val (pe_callB call_isi (by rfl) T.isi boot_isi (pa_cons (pv 1) (pa_cons (pe_bltn (v := .ty "int") (by rfl) T.int_ boot_int' rfl) pa_nil))))
        (pss_one (ps_ret (pe_and (pe_callB call_isi (by rfl) T.isi boot_isi (pa_cons (pv 0) (pa_cons (pe_bltn (v := .ty "int") (by rfl) T.int_ boot_int' rfl) pa_nil)))
          (pe_and (pe_cmpR op_eq (pe_callB call_isi (by rfl) T.isi boot_isi (pa_cons (pv 0) (pa_cons (pe_bltn (v := .ty "bool") (by rfl) T.bool_ boot_bool' rfl) pa_nil))) (pe_callB call_isi (by rfl) T.isi boot_isi (pa_cons (pv 1) (pa_cons (pe_bltn (v := .ty "bool") (by rfl) T.bool_ boot_bool' rfl) pa_nil))) (nomark _))
            (pe_one (pe_cmpR op_eq (pv 0) (pv 1) (nomark _))))))) pss_nil) pss_never), ?_⟩
      refine ⟨_, rfl, by show 2 ≤ sizeLine; decide, fun tp htp => ⟨_, tp, _, _, [.type "list", .type "tuple"], _, rfl, upd_same, .cons (.ty _) (.cons (.ty _) .nil), .base (.bl b), kit2 (b1 := false) (b2 := false) (by decide +kernel) (by decide +kernel) rfl, _, rfl, iteF ?_⟩⟩
      refine ⟨_, rfl, _, _, _, _, _, rfl, .ty _, .base (.bl b), kit_ty (b := "int") (r := true) (by decide +kernel), _, rfl, iteT ?_⟩
      refine ⟨_, rfl, _, _, _, _, _, rfl, .ty _, .base (.bl b), kit_ty (b := "int") (r := true) (by decide +kernel), _, rfl, iteT ?_⟩
      refine ⟨_, rfl, _, _, _, _, _, rfl, .ty _, .base (.bl b), kit_ty (b := "bool") (r := true) (by decide +kernel), _, rfl, _, _, _, _, _, rfl, .ty _, .base (.bl b), kit_ty (b := "bool") (r := true) (by decide +kernel), rfl, _, rfl, ifD_yes rfl ?_⟩
      refine ⟨_, rfl, _, rfl, rfl, ?_⟩
      show Q (V.bl (decide (V.bl b = V.bl b))) _
      rw [decide_eq_true rfl]
      exact k _ (new_ htp)
    | non _ =>
      refine ⟨_, pss_cons (ps_if (pt_val (pe_callB call_isiT (by rfl) T.isi boot_isi (pa_cons (pv 1) (pa_cons (pe_tup (pa_cons (pe_bltn (v := .ty "list") (by rfl) T.list_ boot_list' rfl) (pa_cons (pe_bltn (v := .ty "tuple") (by rfl) T.tup_ boot_tuple' rfl) pa_nil))) pa_nil)))) pss_never pss_nil)
      (pss_cons (ps_if (pt_val (pe_callB call_isi (by rfl) T.isi boot_isi (pa_cons (pv 1) (pa_cons (pe_bltn (v := .ty "int") (by rfl) T.int_ boot_int' rfl) pa_nil)))) pss_never pss_nil)
      (pss_one (ps_ret (pe_and (pe_cmpR op_eq (pv 0) (pv 1) (nomark _)) (pe_one (pe_cmpR op_is_bl (pe_callB call_isiT (by rfl) T.isi boot_isi (pa_cons (pv 0) (pa_cons (pe_tup (pa_cons (pe_bltn (v := .ty "int") (by rfl) T.int_ boot_int' rfl) (pa_cons (pe_bltn (v := .ty "list") (by rfl) T.list_ boot_list' rfl) (pa_cons (pe_bltn (v := .ty "tuple") (by rfl) T.tup_ boot_tuple' rfl) pa_nil)))) pa_nil))) pe_bl (nomark _))))))), ?_⟩
      refine ⟨_, rfl, by show 2 ≤ sizeLine; decide, fun tp htp => ⟨_, tp, _, _, [.type "list", .type "tuple"], _, rfl, upd_same, .cons (.ty _) (.cons (.ty _) .nil), .base .non, kit2 (b1 := false) (b2 := false) (by decide +kernel) (by decide +kernel) rfl, _, rfl, iteF ?_⟩⟩
      refine ⟨_, rfl, _, _, _, _, _, rfl, .ty _, .base .non, kit_ty (b := "int") (r := false) (by decide +kernel), _, rfl, iteF ?_⟩
      refine ⟨_, rfl, _, rfl, rfl, _, rfl, ifD_yes rfl ?_⟩
      refine ⟨_, rfl, by show 3 ≤ sizeLine; decide, fun tq htq => ⟨_, tq, _, _, [.type "int", .type "list", .type "tuple"], _, rfl, upd_same, .cons (.ty _) (.cons (.ty _) (.cons (.ty _) .nil)), .base .non, kit3 (by decide +kernel) (by decide +kernel) (by decide +kernel), _, _, rfl, rfl, ?_⟩⟩
      exact k _ ((new_ htp).trans (new_ htq))
    | str _ x =>
      refine ⟨_, pss_cons (ps_if (pt_val (pe_callB call_isiT (by rfl) T.isi boot_isi (pa_cons (pv 1) (pa_cons (pe_tup (pa_cons (pe_bltn (v := .ty "list") (by rfl) T.list_ boot_list' rfl) (pa_cons (pe_bltn (v := .ty "tuple") (by rfl) T.tup_ boot_tuple' rfl) pa_nil))) pa_nil)))) pss_never pss_nil)
      (pss_cons (ps_if (pt_val (pe_callB call_isi (by rfl) T.isi boot_isi (pa_cons (pv 1) (pa_cons (pe_bltn (v := .ty "int") (by rfl) T.int_ boot_int' rfl) pa_nil)))) pss_never pss_nil)
      (pss_one (ps_ret (pe_and (pe_cmpR op_eq (pv 0) (pv 1) (nomark _)) (pe_one (pe_cmpR op_is_bl (pe_callB call_isiT (by rfl) T.isi boot_isi (pa_cons (pv 0) (pa_cons (pe_tup (pa_cons (pe_bltn (v := .ty "int") (by rfl) T.int_ boot_int' rfl) (pa_cons (pe_bltn (v := .ty "list") (by rfl) T.list_ boot_list' rfl) (pa_cons (pe_bltn (v := .ty "tuple") (by rfl) T.tup_ boot_tuple' rfl) pa_nil)))) pa_nil))) pe_bl (nomark _))))))), ?_⟩
      refine ⟨_, rfl, by show 2 ≤ sizeLine; decide, fun tp htp => ⟨_, tp, _, _, [.type "list", .type "tuple"], _, rfl, upd_same, .cons (.ty _) (.cons (.ty _) .nil), .base (.str x), kit2 (b1 := false) (b2 := false) (by decide +kernel) (by decide +kernel) rfl, _, rfl, iteF ?_⟩⟩
      refine ⟨_, rfl, _, _, _, _, _, rfl, .ty _, .base (.str x), kit_ty (b := "int") (r := false) (by decide +kernel), _, rfl, iteF ?_⟩
      refine ⟨_, rfl, _, rfl, rfl, _, rfl, ifD_yes rfl ?_⟩
      refine ⟨_, rfl, by show 3 ≤ sizeLine; decide, fun tq htq => ⟨_, tq, _, _, [.type "int", .type "list", .type "tuple"], _, rfl, upd_same, .cons (.ty _) (.cons (.ty _) (.cons (.ty _) .nil)), .base (.str x), kit3 (by decide +kernel) (by decide +kernel) (by decide +kernel), _, _, rfl, rfl, ?_⟩⟩
      exact k _ ((new_ htp).trans (new_ htq))
  | succ n ih =>
    refine D.F.ok scSame (hlen (n + 1)) (fun cdv A outer s H vs Q E hr h => ?_)
    obtain ⟨x, y, rfl, t, k⟩ := h
    cases t with
    | int _ i =>
      refine ⟨_, pss_cons (ps_if (pt_val (pe_callB call_isiT (by rfl) T.isi boot_isi (pa_cons (pv 1) (pa_cons (pe_tup (pa_cons (pe_bltn (v := .ty "list") (by rfl) T.list_ boot_list' rfl) (pa_cons (pe_bltn (v := .ty "tuple") (by rfl) T.tup_ boot_tuple' rfl) pa_nil))) pa_nil)))) pss_never pss_nil)
      (pss_cons (ps_if (pt_val (pe_callB call_isi (by rfl) T.isi boot_isi (pa_cons (pv 1) (pa_cons (pe_bltn (v := .ty "int") (by rfl) T.int_ boot_int' rfl) pa_nil))))
        (pss_one (ps_ret (pe_and (pe_callB call_isi (by rfl) T.isi boot_isi (pa_cons (pv 0) (pa_cons (pe_bltn (v := .ty "int") (by rfl) T.int_ boot_int' rfl) pa_nil)))
          (pe_and (pe_cmpR op_eq (pe_callB call_isi (by rfl) T.isi boot_isi (pa_cons (pv 0) (pa_cons (pe_bltn (v := .ty "bool") (by rfl) T.bool_ boot_bool' rfl) pa_nil))) (pe_callB call_isi (by rfl) T.isi boot_isi (pa_cons (pv 1) (pa_cons (pe_bltn (v := .ty "bool") (by rfl) T.bool_ boot_bool' rfl) pa_nil))) (nomark _))
            (pe_one (pe_cmpR op_eq (pv 0) (pv 1) (nomark _))))))) pss_nil) pss_never), ?_⟩
      refine ⟨_, rfl, by show 2 ≤ sizeLine; decide, fun tp htp => ⟨_, tp, _, _, [.type "list", .type "tuple"], _, rfl, upd_same, .cons (.ty _) (.cons (.ty _) .nil), .base (.int i), kit2 (b1 := false) (b2 := false) (by decide +kernel) (by decide +kernel) rfl, _, rfl, iteF ?_⟩⟩
      refine ⟨_, rfl, _, _, _, _, _, rfl, .ty _, .base (.int i), kit_ty (b := "int") (r := true) (by decide +kernel), _, rfl, iteT ?_⟩
      refine ⟨_, rfl, _, _, _, _, _, rfl, .ty _, .base (.int i), kit_ty (b := "int") (r := true) (by decide +kernel), _, rfl, iteT ?_⟩
      refine ⟨_, rfl, _, _, _, _, _, rfl, .ty _, .base (.int i), kit_ty (b := "bool") (r := false) (by decide +kernel), _, rfl, _, _, _, _, _, rfl, .ty _, .base (.int i), kit_ty (b := "bool") (r := false) (by decide +kernel), rfl, _, rfl, ifD_yes rfl ?_⟩
      refine ⟨_, rfl, _, rfl, rfl, ?_⟩
      show Q (V.bl (decide (V.int i = V.int i))) _
      rw [decide_eq_true rfl]
      exact k _ (new_ htp)
    | bl _ b =>
      refine ⟨_, pss_cons (ps_if (pt_val (pe_callB call_isiT (by rfl) T.isi boot_isi (pa_cons (pv 1) (pa_cons (pe_tup (pa_cons (pe_bltn (v := .ty "list") (by rfl) T.list_ boot_list' rfl) (pa_cons (pe_bltn (v := .ty "tuple") (by rfl) T.tup_ boot_tuple' rfl) pa_nil))) pa_nil)))) pss_never pss_nil)
      (pss_cons (ps_if (pt_val (pe_callB call_isi (by rfl) T.isi boot_isi (pa_cons (pv 1) (pa_cons (pe_bltn (v := .ty "int") (by rfl) T.int_ boot_int' rfl) pa_nil))))
        (pss_one (ps_ret (pe_and (pe_callB call_isi (by rfl) T.isi boot_isi (pa_cons (pv 0) (pa_cons (pe_bltn (v := .ty "int") (by rfl) T.int_ boot_int' rfl) pa_nil)))
          (pe_and (pe_cmpR op_eq (pe_callB call_isi (by rfl) T.isi boot_isi (pa_cons (pv 0) (pa_cons (pe_bltn (v := .ty "bool") (by rfl) T.bool_ boot_bool' rfl) pa_nil))) (pe_callB call_isi (by rfl) T.isi boot_isi (pa_cons (pv 1) (pa_cons (pe_bltn (v := .ty "bool") (by rfl) T.bool_ boot_bool' rfl) pa_nil))) (nomark _))
            (pe_one (pe_cmpR op_eq (pv 0) (pv 1) (nomark _))))))) pss_nil) pss_never), ?_⟩
      refine ⟨_, rfl, by show 2 ≤ sizeLine; decide, fun tp htp => ⟨_, tp, _, _, [.type "list", .type "tuple"], _, rfl, upd_same, .cons (.ty _) (.cons (.ty _) .nil), .base (.bl b), kit2 (b1 := false) (b2 := false) (by decide +kernel) (by decide +kernel) rfl, _, rfl, iteF ?_⟩⟩
      refine ⟨_, rfl, _, _, _, _, _, rfl, .ty _, .base (.bl b), kit_ty (b := "int") (r := true) (by decide +kernel), _, rfl, iteT ?_⟩
      refine ⟨_, rfl, _, _, _, _, _, rfl, .ty _, .base (.bl b), kit_ty (b := "int") (r := true) (by decide +kernel), _, rfl, iteT ?_⟩
      refine ⟨_, rfl, _, _, _, _, _, rfl, .ty _, .base (.bl b), kit_ty (b := "bool") (r := true) (by decide +kernel), _, rfl, _, _, _, _, _, rfl, .ty _, .base (.bl b), kit_ty (b := "bool") (r := true) (by decide +kernel), rfl, _, rfl, ifD_yes rfl ?_⟩
      refine ⟨_, rfl, _, rfl, rfl, ?_⟩
      show Q (V.bl (decide (V.bl b = V.bl b))) _
      rw [decide_eq_true rfl]
      exact k _ (new_ htp)
    | non _ =>
      refine ⟨_, pss_cons (ps_if (pt_val (pe_callB call_isiT (by rfl) T.isi boot_isi (pa_cons (pv 1) (pa_cons (pe_tup (pa_cons (pe_bltn (v := .ty "list") (by rfl) T.list_ boot_list' rfl) (pa_cons (pe_bltn (v := .ty "tuple") (by rfl) T.tup_ boot_tuple' rfl) pa_nil))) pa_nil)))) pss_never pss_nil)
      (pss_cons (ps_if (pt_val (pe_callB call_isi (by rfl) T.isi boot_isi (pa_cons (pv 1) (pa_cons (pe_bltn (v := .ty "int") (by rfl) T.int_ boot_int' rfl) pa_nil)))) pss_never pss_nil)
      (pss_one (ps_ret (pe_and (pe_cmpR op_eq (pv 0) (pv 1) (nomark _)) (pe_one (pe_cmpR op_is_bl (pe_callB call_isiT (by rfl) T.isi boot_isi (pa_cons (pv 0) (pa_cons (pe_tup (pa_cons (pe_bltn (v := .ty "int") (by rfl) T.int_ boot_int' rfl) (pa_cons (pe_bltn (v := .ty "list") (by rfl) T.list_ boot_list' rfl) (pa_cons (pe_bltn (v := .ty "tuple") (by rfl) T.tup_ boot_tuple' rfl) pa_nil)))) pa_nil))) pe_bl (nomark _))))))), ?_⟩
      refine ⟨_, rfl, by show 2 ≤ sizeLine; decide, fun tp htp => ⟨_, tp, _, _, [.type "list", .type "tuple"], _, rfl, upd_same, .cons (.ty _) (.cons (.ty _) .nil), .base .non, kit2 (b1 := false) (b2 := false) (by decide +kernel) (by decide +kernel) rfl, _, rfl, iteF ?_⟩⟩
      refine ⟨_, rfl, _, _, _, _, _, rfl, .ty _, .base .non, kit_ty (b := "int") (r := false) (by decide +kernel), _, rfl, iteF ?_⟩
      refine ⟨_, rfl, _, rfl, rfl, _, rfl, ifD_yes rfl ?_⟩
      refine ⟨_, rfl, by show 3 ≤ sizeLine; decide, fun tq htq => ⟨_, tq, _, _, [.type "int", .type "list", .type "tuple"], _, rfl, upd_same, .cons (.ty _) (.cons (.ty _) (.cons (.ty _) .nil)), .base .non, kit3 (by decide +kernel) (by decide +kernel) (by decide +kernel), _, _, rfl, rfl, ?_⟩⟩
      exact k _ ((new_ htp).trans (new_ htq))
    | str _ x =>
      refine ⟨_, pss_cons (ps_if (pt_val (pe_callB call_isiT (by rfl) T.isi boot_isi (pa_cons (pv 1) (pa_cons (pe_tup (pa_cons (pe_bltn (v := .ty "list") (by rfl) T.list_ boot_list' rfl) (pa_cons (pe_bltn (v := .ty "tuple") (by rfl) T.tup_ boot_tuple' rfl) pa_nil))) pa_nil)))) pss_never pss_nil)
      (pss_cons (ps_if (pt_val (pe_callB call_isi (by rfl) T.isi boot_isi (pa_cons (pv 1) (pa_cons (pe_bltn (v := .ty "int") (by rfl) T.int_ boot_int' rfl) pa_nil)))) pss_never pss_nil)
      (pss_one (ps_ret (pe_and (pe_cmpR op_eq (pv 0) (pv 1) (nomark _)) (pe_one (pe_cmpR op_is_bl (pe_callB call_isiT (by rfl) T.isi boot_isi (pa_cons (pv 0) (pa_cons (pe_tup (pa_cons (pe_bltn (v := .ty "int") (by rfl) T.int_ boot_int' rfl) (pa_cons (pe_bltn (v := .ty "list") (by rfl) T.list_ boot_list' rfl) (pa_cons (pe_bltn (v := .ty "tuple") (by rfl) T.tup_ boot_tuple' rfl) pa_nil)))) pa_nil))) pe_bl (nomark _))))))), ?_⟩
      refine ⟨_, rfl, by show 2 ≤ sizeLine; decide, fun tp htp => ⟨_, tp, _, _, [.type "list", .type "tuple"], _, rfl, upd_same, .cons (.ty _) (.cons (.ty _) .nil), .base (.str x), kit2 (b1 := false) (b2 := false) (by decide +kernel) (by decide +kernel) rfl, _, rfl, iteF ?_⟩⟩
      refine ⟨_, rfl, _, _, _, _, _, rfl, .ty _, .base (.str x), kit_ty (b := "int") (r := false) (by decide +kernel), _, rfl, iteF ?_⟩
      refine ⟨_, rfl, _, rfl, rfl, _, rfl, ifD_yes rfl ?_⟩
      refine ⟨_, rfl, by show 3 ≤ sizeLine; decide, fun tq htq => ⟨_, tq, _, _, [.type "int", .type "list", .type "tuple"], _, rfl, upd_same, .cons (.ty _) (.cons (.ty _) (.cons (.ty _) .nil)), .base (.str x), kit3 (by decide +kernel) (by decide +kernel) (by decide +kernel), _, _, rfl, rfl, ?_⟩⟩
      exact k _ ((new_ htp).trans (new_ htq))
    | @lst _ a b xs ys ha hb hl hsz hi =>
      refine ⟨_, pss_cons (ps_if (pt_val (pe_callB call_isiT (by rfl) T.isi boot_isi (pa_cons (pv 1) (pa_cons (pe_tup (pa_cons (pe_bltn (v := .ty "list") (by rfl) T.list_ boot_list' rfl) (pa_cons (pe_bltn (v := .ty "tuple") (by rfl) T.tup_ boot_tuple' rfl) pa_nil))) pa_nil))))
      (pss_cons (ps_if (PW.pt (pw_or (pt_cmpR op_ne (pe_callB call_isi (by rfl) T.isi boot_isi (pa_cons (pv 0) (pa_cons (pe_bltn (v := .ty "list") (by rfl) T.list_ boot_list' rfl) pa_nil))) (pe_callB call_isi (by rfl) T.isi boot_isi (pa_cons (pv 1) (pa_cons (pe_bltn (v := .ty "list") (by rfl) T.list_ boot_list' rfl) pa_nil))) (nomark _)) (pw_or1 (pt_cmpR op_ne (pe_callB call_isi (by rfl) T.isi boot_isi (pa_cons (pv 0) (pa_cons (pe_bltn (v := .ty "tuple") (by rfl) T.tup_ boot_tuple' rfl) pa_nil))) (pe_callB call_isi (by rfl) T.isi boot_isi (pa_cons (pv 1) (pa_cons (pe_bltn (v := .ty "tuple") (by rfl) T.tup_ boot_tuple' rfl) pa_nil))) (nomark _))))) pss_never pss_nil)
        (pss_one (ps_ret (pe_and (pe_cmpR op_eq (pe_callB call_len_seq (by rfl) T.len_ PySem.boot_len (pa_cons (pv 0) pa_nil)) (pe_callB call_len_seq (by rfl) T.len_ PySem.boot_len (pa_cons (pv 1) pa_nil)) (nomark _))
          (pe_one (pe_callB (cr_all rfl) (by rfl) T.all_ boot_all' (pa_cons (pe_lc (own := [("_law_one", 2), ("_law_other", 3)]) (g := gTup K 2 (gCons (gName 2) (gCons (gName 3) gNil))) (tt := tYes) (by rfl) scSame.nd (pi_zipA (by rfl) T.zip_ (pa_cons (pv 0) (pa_cons (pv 1) pa_nil))) (blkOk_by (N := ["_law_found", "_law_due", "_law_one", "_law_other"]) (sc := defScope sSame) (by decide +kernel))
            (fun _ _ _ _ _ => by exact pg_tup rfl (pgs_cons (pg_name (i := 2) scSame.nd rfl (Or.inl rfl)) (pgs_cons (pg_name (i := 3) scSame.nd rfl (Or.inl rfl)) pgs_nil))) (fun _ _ _ _ _ => pts_nil)
            (fun _ _ _ _ _ => pe_call ih hr rfl D.M D.F.kp D.B .nil pass0 (pa_cons (pv 2) (pa_cons (pv 3) pa_nil)))) pa_nil))))))) pss_nil) pss_never, ?_⟩
      refine ⟨_, rfl, by show 2 ≤ sizeLine; decide, fun tp htp => ?_⟩
      have s1 : Same H (upd H tp (.tup [.ty "list", .ty "tuple"])) := new_ htp
      have hA := s1 _ _ ha
      have hB := s1 _ _ hb
      refine ⟨_, tp, _, _, [.type "list", .type "tuple"], _, rfl, upd_same, .cons (.ty _) (.cons (.ty _) .nil), .base (.lst hB), kit2 (b1 := true) (b2 := false) (by decide +kernel) (by decide +kernel) rfl, _, rfl, iteT ?_⟩
      refine ⟨_, rfl, _, _, _, _, _, rfl, .ty _, .base (.lst hA), kit_ty (b := "list") (r := true) (by decide +kernel), _, rfl, _, _, _, _, _, rfl, .ty _, .base (.lst hB), kit_ty (b := "list") (r := true) (by decide +kernel), rfl, _, rfl, iteNS rfl ?_⟩
      refine ⟨_, rfl, _, _, _, _, _, rfl, .ty _, .base (.lst hA), kit_ty (b := "tuple") (r := false) (by decide +kernel), _, rfl, _, _, _, _, _, rfl, .ty _, .base (.lst hB), kit_ty (b := "tuple") (r := false) (by decide +kernel), rfl, _, rfl, iteNS rfl ?_⟩
      refine ⟨_, rfl, _, _, rfl, .inl (SqL.of hA), _, rfl, _, _, rfl, .inl (SqL.of hB), rfl, _, rfl, ifD_yes (by rw [hl]) ?_⟩
      refine ⟨_, rfl, _, rfl, _, _, xs, ys, rfl, .inl ⟨SqL.of hA, SqL.of hB, fun Dd hD => ?_⟩⟩
      refine lc_zipL hl (fun i H' => Same (upd H tp (.tup [.ty "list", .ty "tuple"])) H' ∧ H' Dd = some (.lst ((List.replicate i true).map V.bl))) ⟨new_ hD, upd_same⟩ (fun i H' q => ⟨SqL.of (q.1 _ _ hA), SqL.of (q.1 _ _ hB)⟩) ?_ ?_
      · rintro i x y tt H' hx hy ⟨sm, hd⟩ ht
        refine ⟨tt, _, rfl, SqT.of upd_same, rfl, _, _, rfl, _, _, rfl, rfl, rfl, ?_⟩
        dsimp only [tYes]
        rw [if_pos rfl]
        have s2 : Same H' (upd H' tt (.tup [x, y])) := new_ ht
        refine ⟨_, rfl, _, rfl, x, y, rfl, ((hi i x y hx hy).same s1).same (sm.trans s2), fun H2 s3 => ⟨_, s3 _ _ (s2 _ _ hd), ?_, ?_, ?_⟩⟩
        · rw [List.length_map, List.length_replicate]
          exact Nat.lt_of_lt_of_le (List.getElem?_eq_some_iff.mp hx).1 hsz
        · intro c o e
          rw [upd_ne (ne_of_none e hD)]
          exact s3 _ _ (s2 _ _ (sm _ _ e))
        · rw [upd_same, List.replicate_succ', List.map_append]
          rfl
      · rintro H' ⟨sm, hd⟩
        refine ⟨Dd, _, rfl, SqL.of hd, ?_⟩
        have ea : (List.replicate xs.length true).all id = true := by
          rw [List.all_eq_true]
          intro x hx
          rw [(List.mem_replicate.mp hx).2]
          rfl
        rw [ea]
        exact k _ (s1.trans sm)
    | @tup _ a b xs ys ha hb hl hsz hi =>
      refine ⟨_, pss_cons (ps_if (pt_val (pe_callB call_isiT (by rfl) T.isi boot_isi (pa_cons (pv 1) (pa_cons (pe_tup (pa_cons (pe_bltn (v := .ty "list") (by rfl) T.list_ boot_list' rfl) (pa_cons (pe_bltn (v := .ty "tuple") (by rfl) T.tup_ boot_tuple' rfl) pa_nil))) pa_nil))))
      (pss_cons (ps_if (PW.pt (pw_or (pt_cmpR op_ne (pe_callB call_isi (by rfl) T.isi boot_isi (pa_cons (pv 0) (pa_cons (pe_bltn (v := .ty "list") (by rfl) T.list_ boot_list' rfl) pa_nil))) (pe_callB call_isi (by rfl) T.isi boot_isi (pa_cons (pv 1) (pa_cons (pe_bltn (v := .ty "list") (by rfl) T.list_ boot_list' rfl) pa_nil))) (nomark _)) (pw_or1 (pt_cmpR op_ne (pe_callB call_isi (by rfl) T.isi boot_isi (pa_cons (pv 0) (pa_cons (pe_bltn (v := .ty "tuple") (by rfl) T.tup_ boot_tuple' rfl) pa_nil))) (pe_callB call_isi (by rfl) T.isi boot_isi (pa_cons (pv 1) (pa_cons (pe_bltn (v := .ty "tuple") (by rfl) T.tup_ boot_tuple' rfl) pa_nil))) (nomark _))))) pss_never pss_nil)
        (pss_one (ps_ret (pe_and (pe_cmpR op_eq (pe_callB call_len_seq (by rfl) T.len_ PySem.boot_len (pa_cons (pv 0) pa_nil)) (pe_callB call_len_seq (by rfl) T.len_ PySem.boot_len (pa_cons (pv 1) pa_nil)) (nomark _))
          (pe_one (pe_callB (cr_all rfl) (by rfl) T.all_ boot_all' (pa_cons (pe_lc (own := [("_law_one", 2), ("_law_other", 3)]) (g := gTup K 2 (gCons (gName 2) (gCons (gName 3) gNil))) (tt := tYes) (by rfl) scSame.nd (pi_zipA (by rfl) T.zip_ (pa_cons (pv 0) (pa_cons (pv 1) pa_nil))) (blkOk_by (N := ["_law_found", "_law_due", "_law_one", "_law_other"]) (sc := defScope sSame) (by decide +kernel))
            (fun _ _ _ _ _ => by exact pg_tup rfl (pgs_cons (pg_name (i := 2) scSame.nd rfl (Or.inl rfl)) (pgs_cons (pg_name (i := 3) scSame.nd rfl (Or.inl rfl)) pgs_nil))) (fun _ _ _ _ _ => pts_nil)
            (fun _ _ _ _ _ => pe_call ih hr rfl D.M D.F.kp D.B .nil pass0 (pa_cons (pv 2) (pa_cons (pv 3) pa_nil)))) pa_nil))))))) pss_nil) pss_never, ?_⟩
      refine ⟨_, rfl, by show 2 ≤ sizeLine; decide, fun tp htp => ?_⟩
      have s1 : Same H (upd H tp (.tup [.ty "list", .ty "tuple"])) := new_ htp
      have hA := SqT.up ha s1
      have hB := SqT.up hb s1
      refine ⟨_, tp, _, _, [.type "list", .type "tuple"], _, rfl, upd_same, .cons (.ty _) (.cons (.ty _) .nil), tyT hB, kit2 (b1 := false) (b2 := true) (by decide +kernel) (by decide +kernel) rfl, _, rfl, iteT ?_⟩
      refine ⟨_, rfl, _, _, _, _, _, rfl, .ty _, tyT hA, kit_ty (b := "list") (r := false) (by decide +kernel), _, rfl, _, _, _, _, _, rfl, .ty _, tyT hB, kit_ty (b := "list") (r := false) (by decide +kernel), rfl, _, rfl, iteNS rfl ?_⟩
      refine ⟨_, rfl, _, _, _, _, _, rfl, .ty _, tyT hA, kit_ty (b := "tuple") (r := true) (by decide +kernel), _, rfl, _, _, _, _, _, rfl, .ty _, tyT hB, kit_ty (b := "tuple") (r := true) (by decide +kernel), rfl, _, rfl, iteNS rfl ?_⟩
      refine ⟨_, rfl, _, _, rfl, .inr (hA), _, rfl, _, _, rfl, .inr (hB), rfl, _, rfl, ifD_yes (by rw [hl]) ?_⟩
      refine ⟨_, rfl, _, rfl, _, _, xs, ys, rfl, .inr ⟨hA, hB, fun Dd hD => ?_⟩⟩
      refine lc_zipT hl (fun i H' => Same (upd H tp (.tup [.ty "list", .ty "tuple"])) H' ∧ H' Dd = some (.lst ((List.replicate i true).map V.bl))) ⟨new_ hD, upd_same⟩ (fun i H' q => ⟨SqT.up hA q.1, SqT.up hB q.1⟩) ?_ ?_
      · rintro i x y tt H' hx hy ⟨sm, hd⟩ ht
        refine ⟨tt, _, rfl, SqT.of upd_same, rfl, _, _, rfl, _, _, rfl, rfl, rfl, ?_⟩
        dsimp only [tYes]
        rw [if_pos rfl]
        have s2 : Same H' (upd H' tt (.tup [x, y])) := new_ ht
        refine ⟨_, rfl, _, rfl, x, y, rfl, ((hi i x y hx hy).same s1).same (sm.trans s2), fun H2 s3 => ⟨_, s3 _ _ (s2 _ _ hd), ?_, ?_, ?_⟩⟩
        · rw [List.length_map, List.length_replicate]
          exact Nat.lt_of_lt_of_le (List.getElem?_eq_some_iff.mp hx).1 hsz
        · intro c o e
          rw [upd_ne (ne_of_none e hD)]
          exact s3 _ _ (s2 _ _ (sm _ _ e))
        · rw [upd_same, List.replicate_succ', List.map_append]
          rfl
      · rintro H' ⟨sm, hd⟩
        refine ⟨Dd, _, rfl, SqL.of hd, ?_⟩
        have ea : (List.replicate xs.length true).all id = true := by
          rw [List.all_eq_true]
          intro x hx
          rw [(List.mem_replicate.mp hx).2]
          rfl
        rw [ea]
        exact k _ (s1.trans sm)
end
end PA

set_option maxHeartbeats 4000000
namespace PA
open PySem L2 RZ
open C8 (pss_cut tCut)
theorem Keep.new {a l : Addr} {H H' : Hp} {p : Addr} {o : HO} (k : Keep a l H H') (hp : H' p = none) : Keep a l H (upd H' p o) := k.trans (Keep.of (new_ hp))
theorem Keep.none {a l : Addr} {H H' : Hp} {p : Addr} (k : Keep a l H H') (pa : p ≠ a) (pl : p ≠ l) (h : H' p = Option.none) : H p = Option.none := by
  cases e : H p with
  | none => rfl
  | some o => rw [k p o pa pl e] at h; cases h
theorem TupOf.kp {α : Type} {f : α → List V} {H H' : Hp} {a l c : Addr} {n : Nat} {r : α} (q : TupOf f H c r) (S : StreamAt H a l n) (k : Keep a l H H') : TupOf f H' c r := by
  obtain ⟨ne, ns, x, z, h1, h2, _⟩ := S
  exact k _ _ (ne_of (H := H) q h1 (by intro z; cases z)) (ne_of (H := H) q h2 (by intro z; cases z)) q
theorem EaKp {α : Type} {f : α → List V} {H H' : Hp} {a l : Addr} {n : Nat} {xs : List V} {ds : List α} (e : Ea H (TupOf f) xs ds) (S : StreamAt H a l n) (k : Keep a l H H') : Ea H' (TupOf f) xs ds := e.imp fun c r q => TupOf.kp (f := f) q S k
theorem keep_upd {a l D : Addr} {H H' : Hp} {o : HO} (k : Keep a l H H') (hD : H D = Option.none) : Keep a l H (upd H' D o) := fun c u ca cl e => by
  rw [upd_ne (ne_of_none e hD)]
  exact k c u ca cl e
theorem sm4 {z : Int} (h1 : 1 ≤ z) (h2 : z ≤ 1000) : Sm 9000 z := by
  refine sm9000 (n := 10) ?_ (by decide)
  have e : (2 : Nat) ^ 10 = 1024 := by decide
  show z.natAbs < 2 ^ 10
  rw [e]
  omega
def spEntry : Sp := fun vs H Q _ => ∃ (a l : Addr) (n size : Nat), vs = [.ref a, .int (size : Int)] ∧ StreamAt H a l n ∧ n ≤ 50000 ∧ 1 ≤ size ∧ size ≤ 48 ∧
  ∀ (o : Option Nat) (n' : Nat) (H' : Hp), EOk size o → StreamAt H' a l n' → n' ≤ n + 2 → Keep a l H H' → Q (ev o) H'
def spLines : Sp := fun vs H Q _ => ∃ (a l : Addr) (n : Nat) (most : Int), vs = [.ref a, .int most] ∧ StreamAt H a l n ∧ n ≤ 40000 ∧ 1 ≤ most ∧ most ≤ 48 ∧
  ∀ (L : Addr) (refs : List V) (ls : List Ln) (n' : Nat) (H' : Hp), H' L = some (.lst refs) → H L = none → L ≠ a → L ≠ l → Ea H' isLn refs ls → GoodL ls → StreamAt H' a l n' → n' ≤ n + 200 → Keep a l H H' → Q (.ref L) H'
def spCalls : Sp := fun vs H Q _ => ∃ (a l : Addr) (n : Nat) (cases_ most : Int), vs = [.ref a, .int cases_, .int most] ∧ StreamAt H a l n ∧ n ≤ 40000 ∧ 1 ≤ cases_ ∧ cases_ ≤ 48 ∧ 1 ≤ most ∧ most ≤ 400 ∧
  ∀ (L : Addr) (zs : List Int) (n' : Nat) (H' : Hp), H' L = some (.lst (zs.map V.int)) → H L = none → L ≠ a → L ≠ l → (zs.length : Int) ≤ most → StreamAt H' a l n' → n' ≤ n + 1 + 2 * most.toNat → Keep a l H H' → Q (.ref L) H'
section
variable {P : Program} {w : World} {K : PySem.W.Frag} {mg : Str → Option Value} {base : Heap} {C : Addr}
theorem scEntry : FnScope ["_law_stream", "_law_size"] ["_law_stream", "_law_size"] (defScope sEntry) := ⟨rfl, rfl, rfl, by decide +kernel, rfl, by decide +kernel, by decide +kernel⟩
theorem ok_entry {f g : Addr} {fd gd : FuncData} (F : Fun K "_law_m_entry" "_law_m_entry" sEntry f fd) (T : Txt K mg) (D : Df K mg "_law_draw" sDraw g gd ["_law_stream", "_law_many"]) : FnOk P w K mg base CX0 2 f fd ["_law_stream", "_law_size"] spEntry := by
  have G : FnOk P w K mg base CX0 1 g gd ["_law_stream", "_law_many"] spDraw := ok_draw D.F T
  refine F.ok scEntry (fun vs H Q E h => ?_) (fun cdv A outer s H vs Q E hr h => ?_)
  · obtain ⟨a, l, _, _, rfl, _⟩ := h
    rfl
  · obtain ⟨a, l, n, size, rfl, S0, hn, h1, h48, kk⟩ := h
    refine ⟨_, pss_one (ps_ret (pe_ifExp (pt_cmpR op_eq (pe_call G hr rfl D.M D.F.kp D.B .nil pass0 (pa_cons (pv 0) (pa_cons pe_int pa_nil))) pe_int (nomark _)) pe_non (pe_call G hr rfl D.M D.F.kp D.B .nil pass0 (pa_cons (pv 0) (pa_cons (pv 1) pa_nil))))), ?_⟩
    refine ⟨_, rfl, a, l, n, 4, rfl, S0, by omega, by decide, sm4 (by decide) (by decide), fun r H1 r0 r1 S1 k1 => ⟨rfl, _, rfl, ifD_2 (fun _ => ?_) (fun _ => ?_)⟩⟩
    · exact kk none _ H1 (fun a h => by cases h) S1 (by omega) k1
    · refine ⟨_, rfl, _, rfl, a, l, _, _, rfl, S1, by omega, by omega, sm4 (by omega) (by omega), fun r2 H2 r20 r21 S2 k2 => ?_⟩
      have := kk (some r2.toNat) _ H2 (fun a h => by cases h; omega) S2 (by omega) (k1.trans k2)
      rw [show ev (some r2.toNat) = V.int r2 from congrArg V.int (Int.toNat_of_nonneg r20)] at this
      exact this
theorem scLines : FnScope ["_law_stream", "_law_most", "_law_size", "_law_k"] ["_law_stream", "_law_most"] (defScope sLines) := ⟨rfl, rfl, rfl, by decide +kernel, rfl, by decide +kernel, by decide +kernel⟩
theorem ok_lines {f g g2 : Addr} {fd gd gd2 : FuncData} (F : Fun K "_law_m_lines" "_law_m_lines" sLines f fd) (T : Txt K mg) (D : Df K mg "_law_draw" sDraw g gd ["_law_stream", "_law_many"]) (D2 : Df K mg "_law_m_entry" sEntry g2 gd2 ["_law_stream", "_law_size"]) : FnOk P w K mg base CX0 3 f fd ["_law_stream", "_law_most"] spLines := by
  have G : FnOk P w K mg base CX0 1 g gd ["_law_stream", "_law_many"] spDraw := ok_draw D.F T
  have G2 : FnOk P w K mg base CX0 2 g2 gd2 ["_law_stream", "_law_size"] spEntry := ok_entry D2.F T D
  refine F.ok scLines (fun vs H Q E h => ?_) (fun cdv A outer s H vs Q E hr h => ?_)
  · obtain ⟨a, l, _, _, rfl, _⟩ := h
    rfl
  · obtain ⟨a, l, n, most, rfl, S0, hn, h1, h48, kk⟩ := h
    have hr1 : Room 1 _ := hr.mono (by decide)
    refine ⟨_, pss_cons (ps_set (i := 2) scLines.nd rfl (Or.inr rfl) (pe_op op_add pe_int (pe_call G hr1 rfl D.M D.F.kp D.B .nil pass0 (pa_cons (pv 0) (pa_cons (pv 1) pa_nil)))))
      (pss_one (ps_ret (pe_lc (own := [("_law_k", 3)]) (g := gName 3) (tt := tYes) (by rfl) scLines.nd (pi_range1 (by rfl) T.range_ (pa_cons (pv 2) pa_nil)) (blkOk_by (N := ["_law_stream", "_law_most", "_law_size", "_law_k"]) (sc := defScope sLines) (by decide +kernel))
          (fun _ _ _ _ _ => pg_name (i := 3) scLines.nd rfl (Or.inl rfl)) (fun _ _ _ _ _ => pts_nil)
          (fun _ _ _ _ _ => pe_tup (pa_cons (pe_call G2 hr rfl D2.M D2.F.kp D2.B .nil pass0 (pa_cons (pv 0) (pa_cons (pv 2) pa_nil))) (pa_cons (pe_call G2 hr rfl D2.M D2.F.kp D2.B .nil pass0 (pa_cons (pv 0) (pa_cons (pv 2) pa_nil))) pa_nil)))))), ?_⟩
    refine ⟨_, rfl, _, rfl, a, l, n, most, rfl, S0, by omega, by omega, sm4 (by omega) (by omega), fun r H1 r0 r1 S1 k1 => ⟨_, _, rfl, rfl, ?_⟩⟩
    obtain ⟨sz, hsz⟩ : ∃ sz : Nat, 1 + r = (sz : Int) := ⟨(1 + r).toNat, (Int.toNat_of_nonneg (by omega)).symm⟩
    show gName 2 (V.int (1 + r)) _ _ _
    rw [hsz]
    have sz1 : 1 ≤ sz := by omega
    have sz48 : sz ≤ 48 := by omega
    refine ⟨_, rfl, (sz : Int), rfl, by omega, by omega, fun Dd hD => ?_⟩
    obtain ⟨Da, Dl⟩ := S1.ne hD
    refine lc_range (n := sz) (fun i H' => ∃ n', n' ≤ n + 1 + 4 * i ∧ StreamAt H' a l n' ∧ Keep a l H1 H' ∧ ∃ acc ds, H' Dd = some (.lst acc) ∧ Ea H' isLn acc ds ∧ ds.length = i ∧ ∀ d ∈ ds, LOk sz d) ?_ ?_ ?_
    · exact ⟨n + 1, by omega, S1.same (new_ hD), Keep.of (new_ hD), [], [], upd_same, Ea.nil, rfl, fun d hd => by cases hd⟩
    · rintro i H2 hi ⟨n', hn', S2, k2, acc, ds, hd, he, hl, ho⟩
      refine ⟨rfl, ?_⟩
      dsimp only [tYes]
      rw [if_pos rfl]
      refine ⟨_, rfl, _, rfl, a, l, n', sz, rfl, S2, by omega, sz1, sz48, fun o1 n3 H3 e1 S3 hn3 k3 => ?_⟩
      refine ⟨_, rfl, _, rfl, a, l, n3, sz, rfl, S3, by omega, sz1, sz48, fun o2 n4 H4 e2 S4 hn4 k4 => ⟨by show 2 ≤ sizeLine; decide, fun t ht => ?_⟩⟩
      have k34 := k3.trans k4
      have hd4 := k34 _ _ Da Dl hd
      have he4 := EaKp he S2 k34
      have st := new_ (o := .tup [ev o1, ev o2]) ht
      have hd5 := st _ _ hd4
      refine ⟨acc, hd5, ?_, n4, by omega, (S4.same st).lst hd5 Da Dl, keep_upd ((k2.trans k34).trans (Keep.of st)) hD, acc ++ [.ref t], ds ++ [(o1, o2)], upd_same, ?_, ?_, ?_⟩
      · rw [he.1, hl]
        exact Nat.lt_of_lt_of_le hi (Nat.le_trans sz48 (by decide))
      · exact ((he4.same st).imp fun c r q => TupOf.lst q hd5).push (TupOf.lst (f := lv) (r := (o1, o2)) upd_same hd5)
      · rw [List.length_append, hl]
        rfl
      · intro d hd'
        rcases List.mem_append.mp hd' with hd' | hd'
        · exact ho d hd'
        · cases List.mem_singleton.mp hd'
          exact ⟨e1, e2⟩
    · rintro H2 ⟨n', hn', S2, k2, acc, ds, hd, he, hl, ho⟩
      refine kk Dd acc ds n' H2 hd (k1.none Da Dl hD) Da Dl he ⟨by omega, by omega, ?_⟩ S2 (by omega) (k1.trans k2)
      rw [hl]
      exact ho
theorem scCalls : FnScope ["_law_stream", "_law_cases", "_law_most", "_law_found", "_law_k"] ["_law_stream", "_law_cases", "_law_most"] (defScope sCalls) := ⟨rfl, rfl, rfl, by decide +kernel, rfl, by decide +kernel, by decide +kernel⟩
theorem atI_last {xs : List V} {x : V} : atI (xs ++ [x]) (-1) = some x := by
  unfold atI ixN
  rw [List.length_append]
  simp only [List.length_singleton]
  rw [if_neg (by decide), if_pos (by omega)]
  rw [Option.bind_some, show ((-1 : Int) + ((xs.length + 1 : Nat) : Int)).toNat = xs.length by omega, List.getElem?_append_right (Nat.le_refl _), Nat.sub_self]
  rfl
theorem snoc_of {α : Type} {xs : List α} (h : xs ≠ []) : ∃ ys y, xs = ys ++ [y] := ⟨xs.dropLast, xs.getLast h, (List.dropLast_concat_getLast h).symm⟩
theorem ok_calls {f g : Addr} {fd gd : FuncData} (F : Fun K "_law_m_calls" "_law_m_calls" sCalls f fd) (T : Txt K mg) (D : Df K mg "_law_draw" sDraw g gd ["_law_stream", "_law_many"]) : FnOk P w K mg base CX0 2 f fd ["_law_stream", "_law_cases", "_law_most"] spCalls := by
  have G : FnOk P w K mg base CX0 1 g gd ["_law_stream", "_law_many"] spDraw := ok_draw D.F T
  refine F.ok scCalls (fun vs H Q E h => ?_) (fun cdv A outer s H vs Q E hr h => ?_)
  · obtain ⟨a, l, _, _, _, rfl, _⟩ := h
    rfl
  · obtain ⟨a, l, n, cs, most, rfl, S0, hn, c1, c48, h1, h400, kk⟩ := h
    refine ⟨_, pss_cons (ps_set (i := 3) scCalls.nd rfl (Or.inl rfl) (pe_lst pa_nil))
      (pss_cons (ps_for PassesOwn.never rfl (pi_range1 (by rfl) T.range_ (pa_cons (pe_call G hr rfl D.M D.F.kp D.B .nil pass0 (pa_cons (pv 0) (pa_cons (pe_op op_add (pv 2) pe_int) pa_nil))) pa_nil)) (pg_name (i := 4) scCalls.nd rfl (Or.inl rfl))
        (pss_one (ps_if (PW.pt (pw_and (pt_cmpR (op_neD hr.units) (pv 3) (pe_lst pa_nil) (nomark _)) (pw_and1 (pt_cmpR op_eq (pe_call G hr rfl D.M D.F.kp D.B .nil pass0 (pa_cons (pv 0) (pa_cons pe_int pa_nil))) pe_int (nomark _)))))
          (pss_one (ps_expr (pe_bm PySem.F.plainAttrs_list PySem.F.slot_list_append PySem.F.type_list_append mt_append (pv 3) (pa_cons (pe_ix ix_list (pv 3) (pe_un un_neg pe_int) (fun _ _ => rfl)) pa_nil))))
          (pss_one (ps_expr (pe_bm PySem.F.plainAttrs_list PySem.F.slot_list_append PySem.F.type_list_append mt_append (pv 3) (pa_cons (pe_call G hr rfl D.M D.F.kp D.B .nil pass0 (pa_cons (pv 0) (pa_cons (pv 1) pa_nil))) pa_nil)))))))
      (pss_one (ps_ret (pv 3)))), ?_⟩
    refine ⟨Nat.zero_le _, fun L hL => ?_⟩
    obtain ⟨La, Ll⟩ := S0.ne hL
    have sL := new_ (o := .lst []) hL
    refine ⟨_, rfl, _, rfl, _, _, rfl, rfl, a, l, n, _, rfl, S0.same sL, by omega, by omega, sm4 (by omega) (by omega), fun r H1 r0 r1 S1 k1 => ⟨r, rfl, by omega, by omega, ?_⟩⟩
    have hL1 := k1 _ _ La Ll upd_same
    refine for_range (n := r.toNat) (fun i σ' H' => ∃ x4 n' zs, σ' = [some (V.ref a), some (V.int cs), some (V.int most), some (V.ref L), x4] ∧ n' ≤ n + 1 + 2 * i ∧ StreamAt H' a l n' ∧ Keep a l H H' ∧ H' L = some (.lst ((zs : List Int).map V.int)) ∧ zs.length = i) ?_ ?_ ?_
    · exact ⟨none, n + 1, [], rfl, by omega, S1, (Keep.of sL).trans k1, hL1, rfl⟩
    · rintro i _ H2 hi ⟨x4, n', zs, rfl, hn', S2, k2, h2, hz⟩
      have hsz : ∀ {m : Nat}, m < 1000 → m < sizeLine := fun h => Nat.lt_of_lt_of_le h (by decide)
      have hzl : (zs.map V.int).length < sizeLine := by rw [List.length_map]; exact hsz (by omega)
      refine ⟨_, rfl, Nat.zero_le _, fun q hq => ?_⟩
      have sq := new_ (o := .lst []) hq
      have hq2 := sq _ _ h2
      refine ⟨.list (zs.map PyData.int), .list [], .lst (SqL.of hq2) (dp_ints zs), .lst (SqL.of upd_same) .nil, ints_shaped zs, ints_shaped [], _, rfl, ?_⟩
      rw [ints_nil]
      have fin : ∀ (x : Int) (n3 : Nat) (H3 : Hp), StreamAt H3 a l n3 → n3 ≤ n + 1 + 2 * (i + 1) → Keep a l H H3 → H3 L = some (.lst (zs.map V.int)) →
          ∃ x4 n' zs', [some (V.ref a), some (V.int cs), some (V.int most), some (V.ref L), some (V.int (0 + (i : Int)))] = [some (V.ref a), some (V.int cs), some (V.int most), some (V.ref L), x4] ∧ n' ≤ n + 1 + 2 * (i + 1) ∧ StreamAt (upd H3 L (.lst (zs.map V.int ++ [.int x]))) a l n' ∧ Keep a l H (upd H3 L (.lst (zs.map V.int ++ [.int x]))) ∧ (upd H3 L (.lst (zs.map V.int ++ [.int x]))) L = some (.lst ((zs' : List Int).map V.int)) ∧ zs'.length = i + 1 :=
        fun x n3 H3 S3 h3 k3 e3 => ⟨_, n3, zs ++ [x], rfl, h3, S3.lst e3 La Ll, keep_upd k3 hL, by rw [upd_same, List.map_append]; rfl, by rw [List.length_append, hz]; rfl⟩
      by_cases hzs : zs = []
      · have e : zs.isEmpty = true := by rw [hzs]; rfl
        rw [e]
        refine iteF ?_
        refine ⟨_, rfl, .inl ⟨rfl, _, SqL.of hq2⟩, ?_⟩
        refine ⟨_, rfl, _, rfl, a, l, n', cs, rfl, S2.same sq, by omega, by omega, sm4 (by omega) (by omega), fun r2 H3 r20 r21 S3 k3 => ⟨L, _, _, rfl, rfl, k3 _ _ La Ll hq2, hzl, ?_⟩⟩
        exact fin r2 _ H3 S3 (by omega) ((k2.new hq).trans k3) (k3 _ _ La Ll hq2)
      · have ne : zs ≠ [] := hzs
        have e : zs.isEmpty = false := by
          cases zs with
          | nil => exact absurd rfl ne
          | cons _ _ => rfl
        rw [e]
        refine iteT ?_
        refine ⟨_, rfl, a, l, n', 3, rfl, S2.same sq, by omega, by decide, sm4 (by decide) (by decide), fun r2 H3 r20 r21 S3 k3 => ⟨rfl, _, rfl, ?_⟩⟩
        have h3 := k3 _ _ La Ll hq2
        have kq := (k2.new (o := .lst []) hq).trans k3
        obtain ⟨ys, y, hy⟩ := snoc_of ne
        refine ifD_2 (fun _ => ?_) (fun _ => ?_)
        · refine ⟨_, rfl, .inl ⟨rfl, _, SqL.of h3⟩, ?_⟩
          refine ⟨_, rfl, _, rfl, L, _, (-1 : Int), .int y, rfl, rfl, SqL.of h3, by rw [hy, List.map_append]; exact atI_last, L, _, _, rfl, rfl, h3, hzl, ?_⟩
          exact fin y _ H3 S3 (by omega) kq h3
        · refine ⟨_, rfl, .inl ⟨rfl, _, SqL.of h3⟩, ?_⟩
          refine ⟨_, rfl, _, rfl, a, l, _, cs, rfl, S3, by omega, by omega, sm4 (by omega) (by omega), fun r4 H4 r40 r41 S4 k4 => ⟨L, _, _, rfl, rfl, k4 _ _ La Ll h3, hzl, ?_⟩⟩
          exact fin r4 _ H4 S4 (by omega) (kq.trans k4) (k4 _ _ La Ll h3)
    · rintro _ H2 ⟨x4, n', zs, rfl, hn', S2, k2, h2, hz⟩
      refine ⟨_, rfl, kk L zs n' H2 h2 hL La Ll (by omega) S2 (by omega) k2⟩
end
end PA

set_option maxHeartbeats 4000000
namespace PA
open PySem L2 RZ
open C8 (pss_cut tCut)
def spBelongs : Sp := fun vs H Q _ => ∃ (L c : Addr) (refs : List V) (ls : List Ln) (zs : List Int), vs = [.ref L, .ref c] ∧ H L = some (.lst refs) ∧ Ea H isLn refs ls ∧ GoodL ls ∧ H c = some (.lst (zs.map V.int)) ∧ zs.length ≤ 1000 ∧ ∀ H', Same H H' → Q (.bl (aft ls zs).isSome) H'
def spLed : Sp := fun vs H Q _ => ∃ (a l L : Addr) (n : Nat) (refs : List V) (ls : List Ln) (most : Nat), vs = [.ref a, .ref L, .int (most : Int)] ∧ StreamAt H a l n ∧ n ≤ 15000 ∧ H L = some (.lst refs) ∧ L ≠ a ∧ L ≠ l ∧ Ea H isLn refs ls ∧ GoodL ls ∧ 3 ≤ most ∧ most ≤ 400 ∧
  ∀ (c : Addr) (zs : List Int) (n' : Nat) (H' : Hp), H' c = some (.lst (zs.map V.int)) → H c = none → c ≠ a → c ≠ l → zs.length ≤ most + 1 → StreamAt H' a l n' → n' ≤ n + 2 * most + 4 → Keep a l H H' → Q (.ref c) H'
/-- the entry of a line by its place -/
def entry (l : Ln) : Nat → Option Nat
  | 0 => l.1
  | _ + 1 => l.2
theorem lv_get (l : Ln) {i : Nat} (h : i < 2) : (lv l)[i]? = some (ev (entry l i)) := by
  rcases i with _ | _ | i
  · rfl
  · rfl
  · omega
/-- the ways on -/
def ways (l : Ln) (i : Nat) : List Nat := (List.range i).filter fun w => (entry l w).isSome
theorem ways_succ (l : Ln) (i : Nat) : ways l (i + 1) = if (entry l i).isSome = true then ways l i ++ [i] else ways l i := by
  unfold ways
  rw [List.range_succ, List.filter_append]
  by_cases h : (entry l i).isSome = true
  · rw [if_pos h]
    simp [h]
  · rw [if_neg h]
    simp [h]
theorem ways_mem {l : Ln} {i w : Nat} (h : w ∈ ways l i) : w < i ∧ (entry l w).isSome = true := by
  unfold ways at h
  rw [List.mem_filter, List.mem_range] at h
  exact h
theorem ways_len (l : Ln) (i : Nat) : (ways l i).length ≤ i := by
  unfold ways
  have := List.length_filter_le (fun w => (entry l w).isSome) (List.range i)
  rw [List.length_range] at this
  exact this
def rIxLK (K : PySem.W.Frag) : R2 := fun x y H Q => ∃ p xs i v, x = .ref p ∧ y = .int i ∧ SqL K H p xs ∧ atI xs i = some v ∧ Q v H
theorem ix_listK {X : Cx} {K : PySem.W.Frag} (h : X.K = K) : IxR X (rIxLK K) := h ▸ ix_list
def natV (n : Nat) : V := .int (n : Int)
theorem natsD (ws : List Nat) : ws.map natV = (ws.map fun n : Nat => (n : Int)).map V.int := by
  rw [List.map_map]
  rfl
section
variable {P : Program} {w : World} {K : PySem.W.Frag} {mg : Str → Option Value} {base : Heap} {C : Addr}
theorem scBelongs : FnScope ["_law_lines", "_law_calls", "_law_state", "_law_at", "_law_call"] ["_law_lines", "_law_calls"] (defScope sBelongs) := ⟨rfl, rfl, rfl, by decide +kernel, rfl, by decide +kernel, by decide +kernel⟩
theorem ok_belongs {f : Addr} {fd : FuncData} (F : Fun K "_law_m_belongs" "_law_m_belongs" sBelongs f fd) (T : Txt K mg) : FnOk P w K mg base CX0 1 f fd ["_law_lines", "_law_calls"] spBelongs := by
  refine F.ok scBelongs (fun vs H Q E h => ?_) (fun cdv A outer s H vs Q E hr h => ?_)
  · obtain ⟨L, c, _, _, _, rfl, _⟩ := h
    rfl
  · obtain ⟨L, c, refs, ls, zs, rfl, hL, hE, gd, hc, hz, kk⟩ := h
    refine ⟨_, pss_cons (ps_set (i := 2) scBelongs.nd rfl (Or.inl rfl) pe_int)
      (pss_cons (ps_for PassesOwn.never rfl (pi_enum (by rfl) T.enum_ (pa_cons (pv 1) pa_nil)) (pg_tup rfl (pgs_cons (pg_name (i := 3) scBelongs.nd rfl (Or.inl rfl)) (pgs_cons (pg_name (i := 4) scBelongs.nd rfl (Or.inl rfl)) pgs_nil)))
        (pss_one (ps_if (PW.pt (pw_and (pt_cmpR op_gt (pv 3) pe_int (nomark _)) (pw_and1 (pt_cmp (pc_notN (pv 2))))))
          (pss_one (ps_set (i := 2) scBelongs.nd rfl (Or.inl rfl) (pe_ix ix_tup (pe_ix ix_list (pv 0) (pv 2) (fun _ _ => rfl)) (pe_ifExp (pt_cmpR op_eq (pv 4) (pe_ix ix_list (pv 1) (pe_op op_sub (pv 3) pe_int) (fun _ _ => rfl)) (nomark _)) pe_int pe_int) (fun _ _ => rfl)))) pss_nil)))
      (pss_one (ps_ret (pe_cmp (pc_notN (pv 2)))))), ?_⟩
    refine ⟨_, rfl, c, _, rfl, SqL.of hc, ?_⟩
    refine for_it (walk_enum (K := K) (a := c) (xs := zs.map V.int)) (fun i σ' H' => ∃ x3 x4, σ' = [some (.ref L), some (.ref c), some (ev (stAt ls zs (i - 1))), x3, x4] ∧ Same H H') ⟨_, _, by rw [Nat.zero_sub, st_0]; rfl, fun _ _ e => e⟩ (fun i σ' H' _ q => by
      obtain ⟨_, _, _, s'⟩ := q
      exact SqL.of (s' _ _ hc)) ?_ ?_
    · rintro i _ _ H2 _ hi ⟨x3, x4, rfl, s2⟩ ⟨t, x, y, rfl, ht, rfl, hx, hy⟩
      dsimp only at hx hy
      cases hx
      rw [List.getElem?_map, Option.map_eq_some_iff] at hy
      obtain ⟨y, hy, rfl⟩ := hy
      have s3 := new_ (o := .tup [.int (i : Int), .int y]) ht
      have sm := s2.trans s3
      refine ⟨t, _, rfl, SqT.of upd_same, rfl, _, _, rfl, _, _, rfl, rfl, ?_⟩
      refine ⟨_, rfl, _, _, rfl, rfl, _, rfl, ifD_2 (fun h0 => ?_) (fun h0 => ?_)⟩
      · have i1 : 1 ≤ i := by omega
        have hx : zs[i - 1]? = some (zs[i - 1]'(by have := (List.getElem?_eq_some_iff.mp hy).1; omega)) := List.getElem?_eq_getElem _
        have hy' : zs[i - 1 + 1]? = some y := by rw [show i - 1 + 1 = i by omega]; exact hy
        have st := st_step (ls := ls) hx hy'
        rw [show i - 1 + 1 = i by omega] at st
        refine ⟨_, rfl, _, rfl, ?_⟩
        rw [ev_non, Bool.not_not]
        cases hs : stAt ls zs (i - 1) with
        | none =>
          refine iteF ?_
          rw [hs] at st
          refine ⟨some (.int (i : Int)), some (.int y), ?_, sm⟩
          rw [show i + 1 - 1 = i by omega, st]
          rfl
        | some s =>
          refine iteT ?_
          rw [hs] at st
          have ha : s < ls.length := by
            have e := hs
            unfold stAt at e
            exact aft_lt gd e
          obtain ⟨d, hd, hdl⟩ := hE.get (List.getElem?_eq_getElem ha)
          refine ⟨_, rfl, _, rfl, L, refs, (s : Int), _, rfl, rfl, SqL.of (sm _ _ hL), atI_nat hd, ?_⟩
          have hd2 := sm _ _ hdl
          refine ⟨_, rfl, _, rfl, _, rfl, _, _, rfl, rfl, ?_⟩
          have hix : atI (zs.map V.int) ((i : Int) - 1) = some (.int (zs[i - 1]'(by have := (List.getElem?_eq_some_iff.mp hy).1; omega))) := by
            rw [show (i : Int) - 1 = ((i - 1 : Nat) : Int) by omega]
            exact atI_nat (by rw [List.getElem?_map, hx]; rfl)
          refine ⟨c, _, _, _, rfl, rfl, SqL.of (sm _ _ hc), hix, rfl, _, rfl, ifD_2 (fun e => ?_) (fun e => ?_)⟩
          · have e' : y = zs[i - 1]'(by have := (List.getElem?_eq_some_iff.mp hy).1; omega) := by injection e
            refine ⟨d, _, (0 : Int), ev ls[s].1, rfl, rfl, SqT.of hd2, rfl, some (.int (i : Int)), some (.int y), ?_, sm⟩
            rw [show i + 1 - 1 = i by omega, st, decide_eq_true e']
            unfold nxt
            rw [Option.bind_some, List.getElem?_eq_getElem ha]
            rfl
          · have e' : ¬ y = zs[i - 1]'(by have := (List.getElem?_eq_some_iff.mp hy).1; omega) := fun z => e (congrArg V.int z)
            refine ⟨d, _, (1 : Int), ev ls[s].2, rfl, rfl, SqT.of hd2, rfl, some (.int (i : Int)), some (.int y), ?_, sm⟩
            rw [show i + 1 - 1 = i by omega, st, decide_eq_false e']
            unfold nxt
            rw [Option.bind_some, List.getElem?_eq_getElem ha]
            rfl
      · have i0 : i = 0 := by omega
        subst i0
        exact ⟨_, _, rfl, sm⟩
    · rintro _ H2 ⟨x3, x4, rfl, s2⟩
      refine ⟨_, rfl, ?_⟩
      show Q (V.bl (!decide (ev (stAt ls zs ((zs.map V.int).length - 1)) = .non))) H2
      rw [ev_non, Bool.not_not, st_end (by rw [List.length_map]; omega)]
      exact kk H2 s2
theorem scLed : FnScope ["_law_stream", "_law_lines", "_law_most", "_law_state", "_law_calls", "_law_ways", "_law_way"] ["_law_stream", "_law_lines", "_law_most"] (defScope sLed) := ⟨rfl, rfl, rfl, by decide +kernel, rfl, by decide +kernel, by decide +kernel⟩
theorem ok_led {f g g2 : Addr} {fd gd gd2 : FuncData} (F : Fun K "_law_led" "_law_led" sLed f fd) (T : Txt K mg) (D : Df K mg "_law_draw" sDraw g gd ["_law_stream", "_law_many"]) (D2 : Df K mg "_law_pick" sPick g2 gd2 ["_law_stream", "_law_some"]) : FnOk P w K mg base CX0 3 f fd ["_law_stream", "_law_lines", "_law_most"] spLed := by
  have G : FnOk P w K mg base CX0 1 g gd ["_law_stream", "_law_many"] spDraw := ok_draw D.F T
  have G2 : FnOk P w K mg base CX0 2 g2 gd2 ["_law_stream", "_law_some"] spPick := ok_pick D2.F T D
  refine F.ok scLed (fun vs H Q E h => ?_) (fun cdv A outer s H vs Q E hr h => ?_)
  · obtain ⟨a, l, L, _, _, _, _, rfl, _⟩ := h
    rfl
  · obtain ⟨a, l, L, n, refs, ls, most, rfl, S0, hn, hL, La, Ll, hE, gd, m3, m400, kk⟩ := h
    have hr1 : Room 1 _ := hr.mono (by decide)
    refine ⟨_, pss_cons (ps_asg (pe_tup (pa_cons pe_int (pa_cons (pe_lst (pa_cons (pe_call G hr1 rfl D.M D.F.kp D.B .nil pass0 (pa_cons (pv 0) (pa_cons pe_int pa_nil))) pa_nil)) pa_nil))) (pg_tup rfl (pgs_cons (pg_name (i := 3) scLed.nd rfl (Or.inr rfl)) (pgs_cons (pg_name (i := 4) scLed.nd rfl (Or.inl rfl)) pgs_nil))))
      (pss_cons (ps_while PassesOwn.never (PW.pt (pw_and (pt_cmp (pc_notN (pv 3))) (pw_and1 (pt_cmpR op_lt (pe_callB call_len_seq (by rfl) T.len_ PySem.boot_len (pa_cons (pv 4) pa_nil)) (pv 2) (nomark _)))))
        (pss_cons (ps_setLc (i := 5) (own := [("_law_way", 6)]) (g := gName 6) (tt := tB (tNotN (tOp (rIxTK K) (tOp (rIxLK K) (tVar 1) (tVar 3)) (tVar 6)))) (by rfl) scLed.nd rfl rfl (sw_true rfl rfl rfl (by decide +kernel)) (pi_tup (pe_tup (pa_cons pe_int (pa_cons pe_int pa_nil)))) (blkOk_by (N := ["_law_stream", "_law_lines", "_law_most", "_law_state", "_law_calls", "_law_ways", "_law_way"]) (sc := defScope sLed) (by decide +kernel))
            (fun _ _ _ _ _ => pg_name (i := 6) scLed.nd rfl (Or.inl rfl)) (fun _ _ _ _ _ => pts_one (pt_cmp (pc_notN (pe_ix (ix_tupK (K := K) rfl) (pe_ix (ix_listK (K := K) rfl) (pv 1) (pv 3) (fun _ _ => rfl)) (pv 6) (fun _ _ => rfl)))))
            (fun _ _ _ _ _ => pv 6))
        (pss_cons (ps_if (PW.pt (pw_or (pt_cmpR (op_eqD hr.units) (pv 5) (pe_lst pa_nil) (nomark _)) (pw_or1 (pt_cmpR op_eq (pe_call G hr1 rfl D.M D.F.kp D.B .nil pass0 (pa_cons (pv 0) (pa_cons (pe_op op_fdiv (pv 2) pe_int) pa_nil))) pe_int (nomark _)))))
            (pss_one (ps_ret (pe_op op_cat (pv 4) (pe_lst (pa_cons (pe_call G hr1 rfl D.M D.F.kp D.B .nil pass0 (pa_cons (pv 0) (pa_cons pe_int pa_nil))) pa_nil))))) pss_nil)
        (pss_cons (ps_set (i := 6) scLed.nd rfl (Or.inl rfl) (pe_call G2 hr rfl D2.M D2.F.kp D2.B .nil pass0 (pa_cons (pv 0) (pa_cons (pv 5) pa_nil))))
        (pss_cons (ps_expr (pe_bm PySem.F.plainAttrs_list PySem.F.slot_list_append PySem.F.type_list_append mt_append (pv 4) (pa_cons (pe_ifExp (pt_cmpR op_eq (pv 6) pe_int (nomark _)) (pe_ix ix_list (pv 4) (pe_un un_neg pe_int) (fun _ _ => rfl)) (pe_op op_sub pe_int (pe_ix ix_list (pv 4) (pe_un un_neg pe_int) (fun _ _ => rfl)))) pa_nil)))
        (pss_one (ps_set (i := 3) scLed.nd rfl (Or.inr rfl) (pe_ix ix_tup (pe_ix ix_list (pv 1) (pv 3) (fun _ _ => rfl)) (pv 6) (fun _ _ => rfl)))))))))
      (pss_one (ps_ret (pv 4)))), ?_⟩
    refine ⟨_, rfl, a, l, n, 2, rfl, S0, by omega, by decide, sm4 (by decide) (by decide), fun r H1 r0 r1 S1 k1 => ⟨by show 1 ≤ sizeLine; decide, fun c hc => ⟨by show 2 ≤ sizeLine; decide, fun t ht => ?_⟩⟩⟩
    obtain ⟨ca, cl⟩ := S1.ne hc
    have sc := new_ (o := .lst [.int r]) hc
    have st := new_ (o := .tup [.int 0, .ref c]) ht
    refine ⟨t, _, rfl, SqT.of upd_same, rfl, _, _, rfl, _, _, rfl, rfl, ?_⟩
    have hc0 : H c = none := k1.none ca cl hc
    refine ⟨fun m σ' H' => ∃ s zs n' x5 x6, σ' = [some (.ref a), some (.ref L), some (.int (most : Int)), some (ev s), some (.ref c), x5, x6] ∧ (∀ i, s = some i → i < ls.length) ∧ m = most - (zs : List Int).length ∧ zs ≠ [] ∧ zs.length ≤ most ∧ n' ≤ n + 1 + 2 * zs.length ∧ StreamAt H' a l n' ∧ Keep a l H H' ∧ H' c = some (.lst (zs.map V.int)),
      ⟨_, some 0, [r], n + 1, none, none, rfl, fun i h => by cases h; exact gd.one, rfl, by simp, by show 1 ≤ most; omega, by omega, (S1.same sc).same st, (k1.trans (Keep.of sc)).trans (Keep.of st), st _ _ upd_same⟩, ?_⟩
    rintro m _ H2 ⟨s, zs, n', x5, x6, rfl, hs, rfl, hne, hzl, hn', S2, k2, hc2⟩
    have stop : tRet (tVar 4) { nx := fun x H' => Q V.non H', rt := Q } [some (.ref a), some (.ref L), some (.int (most : Int)), some (ev s), some (.ref c), x5, x6] H2 :=
      ⟨_, rfl, kk c zs n' H2 hc2 hc0 ca cl (by omega) S2 (by omega) k2⟩
    refine ⟨_, rfl, _, rfl, ?_⟩
    rw [ev_non, Bool.not_not]
    cases s with
    | none => exact iteF (iteF stop)
    | some i =>
      have hi := hs i rfl
      refine iteT ⟨_, rfl, c, _, rfl, .inl (SqL.of hc2), _, rfl, _, _, rfl, rfl, _, rfl, ?_⟩
      rw [List.length_map]
      refine ifD_2 (fun hlt => ?_) (fun _ => stop)
      have hlt' : zs.length < most := by omega
      refine ⟨fun σ' H' => ∃ s zs' n' x5 x6, σ' = [some (.ref a), some (.ref L), some (.int (most : Int)), some (ev s), some (.ref c), x5, x6] ∧ (∀ i, s = some i → i < ls.length) ∧ (zs' : List Int).length = zs.length + 1 ∧ n' ≤ n + 1 + 2 * zs'.length ∧ StreamAt H' a l n' ∧ Keep a l H H' ∧ H' c = some (.lst (zs'.map V.int)),
        fun σ' H' ⟨s, zs', n', x5, x6, e1, e2, e3, e4, e5, e6, e7⟩ => ⟨most - zs'.length, by omega, s, zs', n', x5, x6, e1, e2, rfl, (fun z => by rw [z] at e3; cases e3), by omega, e4, e5, e6, e7⟩, ?_⟩
      have hL2 := k2 _ _ La Ll hL
      obtain ⟨d, hd, hdl0⟩ := hE.get (List.getElem?_eq_getElem hi)
      have hdl : isLn H2 d ls[i] := TupOf.kp (f := lv) hdl0 S0 k2
      generalize hln : ls[i] = ln at hdl
      refine ⟨by show 2 ≤ sizeLine; decide, fun u hu => ⟨u, rfl, ⟨_, SqT.of upd_same⟩, fun W hW => ?_⟩⟩
      have su := new_ (o := .tup [.int 0, .int 1]) hu
      obtain ⟨Wa, Wl⟩ := (S2.same su).ne hW
      refine lc_it (walk_t (K := K) (a := u) (xs := [V.int 0, V.int 1])) (fun j H' => Same (upd H2 u (.tup [.int 0, .int 1])) H' ∧ H' W = some (.lst ((ways ln j).map natV))) ⟨new_ hW, upd_same⟩ (fun j H' _ q => SqT.of (q.1 _ _ upd_same)) ?_ ?_
      · rintro j x H' _ hj ⟨sm, hw⟩ ⟨rfl, hx⟩
        have hj2 : j < 2 := hj
        have ex : x = natV j := by
          rcases j with _ | _ | j
          · cases hx; rfl
          · cases hx; rfl
          · omega
        subst ex
        refine ⟨rfl, ?_⟩
        refine ⟨_, rfl, _, rfl, L, refs, (i : Int), _, rfl, rfl, SqL.of (sm _ _ (su _ _ hL2)), atI_nat hd, ?_⟩
        refine ⟨_, rfl, d, _, (j : Int), _, rfl, rfl, SqT.of (sm _ _ (su _ _ hdl)), atI_nat (lv_get ln hj2), _, rfl, ?_⟩
        rw [ev_non, Bool.not_not, ways_succ]
        have wl : ((ways ln j).map natV).length < sizeLine := by
          rw [List.length_map]
          exact Nat.lt_of_le_of_lt (ways_len ln j) (Nat.lt_of_lt_of_le hj2 (by decide))
        dsimp only
        by_cases he : (entry ln j).isSome = true
        · rw [if_pos he, if_pos he]
          refine ⟨_, rfl, _, hw, wl, fun c' o e => ?_, ?_⟩
          · rw [upd_ne (ne_of_none e hW)]
            exact sm _ _ e
          · rw [upd_same, List.map_append]
            rfl
        · rw [if_neg he, if_neg he]
          exact ⟨sm, hw⟩
      · rintro H3 ⟨sm, hw⟩
        have hw : H3 W = some (.lst ((ways ln 2).map natV)) := hw
        have s23 := su.trans sm
        have hc3 := s23 _ _ hc2
        have hL3 := s23 _ _ hL2
        have S3 := S2.same s23
        have k3 := k2.trans (Keep.of s23)
        refine ⟨_, rfl, Nat.zero_le _, fun q hq => ?_⟩
        have sq := new_ (o := .lst []) hq
        have hwq := sq _ _ hw
        rw [natsD] at hwq
        refine ⟨.list (((ways ln 2).map fun n : Nat => (n : Int)).map PyData.int), .list [], .lst (SqL.of hwq) (dp_ints _), .lst (SqL.of upd_same) .nil, ints_shaped _, ints_shaped [], _, rfl, ?_⟩
        rw [ints_nil]
        have S4 := S3.same sq
        have k4 := k3.trans (Keep.of sq)
        have hc4 := sq _ _ hc3
        have endR : ∀ (n3 : Nat) (H5 : Hp), StreamAt H5 a l n3 → n3 ≤ n + 2 + 2 * zs.length + 2 → Keep a l H H5 → H5 c = some (.lst (zs.map V.int)) →
            ∀ (x5 x6 : Option V), tRet (tOp rCat (tVar 4) (tLst (tCons (tCall spDraw [] E0 (tCons (tVar 0) (tCons (tC (.int 2)) tNil))) tNil))) { nx := fun x H' => Q V.non H', rt := Q } [some (.ref a), some (.ref L), some (.int (most : Int)), some (ev (some i)), some (.ref c), x5, x6] H5 := by
          intro n3 H5 S5 hn3 k5 hc5 x5 x6
          refine ⟨_, rfl, _, rfl, a, l, n3, 2, rfl, S5, by omega, by decide, sm4 (by decide) (by decide), fun r6 H6 r60 r61 S6 k6 => ⟨by show 1 ≤ sizeLine; decide, fun p hp => ?_⟩⟩
          have sp := new_ (o := .lst [.int r6]) hp
          have hc6 := sp _ _ (k6 _ _ ca cl hc5)
          refine ⟨c, p, _, _, rfl, rfl, hc6, upd_same, ?_, fun y hy => ?_⟩
          · rw [List.length_map]
            show zs.length + 1 ≤ sizeLine
            exact Nat.le_trans (by omega : zs.length + 1 ≤ 1000) (by decide)
          · have sy := new_ (o := .lst (zs.map V.int ++ [.int r6])) hy
            have k7 := ((k5.trans k6).trans (Keep.of sp)).trans (Keep.of sy)
            obtain ⟨ya, yl⟩ := (S6.same sp).ne hy
            refine kk y (zs ++ [r6]) (n3 + 1) _ (by rw [upd_same, List.map_append]; rfl) (((k5.trans k6).trans (Keep.of sp)).none ya yl hy) ya yl (by rw [List.length_append]; show zs.length + 1 ≤ most + 1; omega) ((S6.same sp).same sy) (by omega) k7
        by_cases hw0 : ways ln 2 = []
        · have e : ((ways ln 2).map fun n : Nat => (n : Int)).isEmpty = true := by rw [hw0]; rfl
          rw [e]
          exact iteT (iteT (endR _ _ S4 (by omega) k4 hc4 _ _))
        · have e : ((ways ln 2).map fun n : Nat => (n : Int)).isEmpty = false := by
            cases h : ways ln 2 with
            | nil => exact absurd h hw0
            | cons _ _ => rfl
          rw [e]
          refine iteF ⟨_, rfl, _, rfl, _, _, rfl, rfl, (⟨by decide, by decide⟩ : CDiv _ 3), a, l, _, _, rfl, S4, by omega, ?_, ?_, fun r5 H5 r50 r51 S5 k5 => ⟨rfl, _, rfl, ?_⟩⟩
          · omega
          · exact sm4 (by omega) (by omega)
          have k45 := k4.trans k5
          have hc5 := k5 _ _ ca cl hc4
          refine ifD_2 (fun _ => endR _ _ S5 (by omega) k45 hc5 _ _) (fun _ => ?_)
          have hw5 : H5 W = some (.lst ((ways ln 2).map natV)) := k5 _ _ Wa Wl (sq _ _ hw)
          refine ⟨_, rfl, _, rfl, a, l, W, _, _, rfl, S5, by omega, hw5, Wa, Wl, ?_, ?_, fun j x H6 hx S6 k6 => ?_⟩
          · rw [List.length_map]
            cases h : ways ln 2 with
            | nil => exact absurd h hw0
            | cons _ _ => simp
          · rw [List.length_map]
            exact Nat.le_trans (ways_len ln 2) (by decide)
          rw [List.getElem?_map, Option.map_eq_some_iff] at hx
          obtain ⟨wy, hwy, rfl⟩ := hx
          obtain ⟨w2, ws⟩ := ways_mem (List.mem_of_getElem? hwy)
          have hc6 := k6 _ _ ca cl hc5
          have k46 := k45.trans k6
          have hL6 := k46 _ _ La Ll hL
          obtain ⟨ys, y, hy⟩ := snoc_of hne
          have hlast : atI (zs.map V.int) (-1) = some (.int y) := by rw [hy, List.map_append]; exact atI_last
          have hzs : (zs.map V.int).length < sizeLine := by
            rw [List.length_map]
            exact Nat.lt_of_lt_of_le (by omega : zs.length < 1000) (by decide)
          have hs' : ∀ j, entry ln wy = some j → j < ls.length := fun j hj => by
            have o := gd.ok _ (List.getElem_mem hi)
            rw [hln] at o
            rcases wy with _ | wy
            · exact o.1 j hj
            · exact o.2 j hj
          have suf : ∀ x : Int, ∃ s zs' n' x5 x6, [some (V.ref a), some (V.ref L), some (V.int (most : Int)), some (ev (entry ln wy)), some (V.ref c), some (V.ref W), some (natV wy)] = [some (.ref a), some (.ref L), some (.int (most : Int)), some (ev s), some (.ref c), x5, x6] ∧ (∀ i, s = some i → i < ls.length) ∧ (zs' : List Int).length = zs.length + 1 ∧ n' ≤ n + 1 + 2 * zs'.length ∧ StreamAt (upd H6 c (.lst (zs.map V.int ++ [.int x]))) a l n' ∧ Keep a l H (upd H6 c (.lst (zs.map V.int ++ [.int x]))) ∧ (upd H6 c (.lst (zs.map V.int ++ [.int x]))) c = some (.lst (zs'.map V.int)) :=
            fun x => ⟨_, zs ++ [x], _, _, _, rfl, hs', by rw [List.length_append]; rfl, by rw [List.length_append]; show _ ≤ n + 1 + 2 * (zs.length + 1); omega, S6.lst hc6 ca cl, keep_upd k46 hc0, by rw [upd_same, List.map_append]; rfl⟩
          have ld : ∀ x : Int, (upd H6 c (.lst (zs.map V.int ++ [.int x]))) L = some (.lst refs) ∧ (upd H6 c (.lst (zs.map V.int ++ [.int x]))) d = some (.tup (lv ln)) := fun x => by
            have hd6 : isLn H6 d ln := TupOf.kp (f := lv) (TupOf.kp (f := lv) (sq _ _ (s23 _ _ hdl)) S4 k5) S5 k6
            exact ⟨by rw [upd_ne (ne_of_none hL hc0)]; exact hL6, TupOf.lst (f := lv) hd6 hc6⟩
          refine ⟨_, rfl, .inl ⟨rfl, _, SqL.of hc6⟩, _, rfl, rfl, _, rfl, ?_⟩
          refine ifD_2 (fun _ => ⟨_, rfl, _, rfl, c, _, (-1), .int y, rfl, rfl, SqL.of hc6, hlast, c, _, .int y, rfl, rfl, hc6, hzs, ?_⟩) (fun _ => ⟨_, rfl, _, rfl, c, _, (-1), .int y, rfl, rfl, SqL.of hc6, hlast, _, _, rfl, rfl, c, _, .int (1 - y), rfl, rfl, hc6, hzs, ?_⟩)
          · exact ⟨_, rfl, _, rfl, L, refs, (i : Int), _, rfl, rfl, SqL.of (ld y).1, atI_nat hd, _, rfl, d, _, (wy : Int), _, rfl, rfl, SqT.of (ld y).2, atI_nat (lv_get ln w2), suf y⟩
          · exact ⟨_, rfl, _, rfl, L, refs, (i : Int), _, rfl, rfl, SqL.of (ld (1 - y)).1, atI_nat hd, _, rfl, d, _, (wy : Int), _, rfl, rfl, SqT.of (ld (1 - y)).2, atI_nat (lv_get ln w2), suf (1 - y)⟩
end
end PA

namespace PA
open PySem L2 RZ
structure Adr where
  fCI : Addr
  dCI : FuncData
  fHas : Addr
  dHas : FuncData
  fisInt : Addr
  disInt : FuncData
  fbelow : Addr
  dbelow : FuncData
  fisRow : Addr
  disRow : FuncData
  fcheck : Addr
  dcheck : FuncData
  fafter : Addr
  dafter : FuncData
  fdraw : Addr
  ddraw : FuncData
  fstart : Addr
  dstart : FuncData
  fpick : Addr
  dpick : FuncData
  fsame : Addr
  dsame : FuncData
  fcalls : Addr
  dcalls : FuncData
  fentry : Addr
  dentry : FuncData
  flines : Addr
  dlines : FuncData
  fbelongs : Addr
  dbelongs : FuncData
  fled : Addr
  dled : FuncData
structure Prog (K : PySem.W.Frag) (mg : Str → Option Value) (C Fo : Addr) (A : Adr) : Prop where
  T : Txt K mg
  TC : TxtC K mg C Fo
  CI : Fun K "__init__" "RowSet.__init__" sInit A.fCI A.dCI
  CM : Mk K C A.fCI
  Cb : Binds K A.dCI ["self", "rows"] []
  FHas : Fun K "__contains__" "RowSet.__contains__" sHas A.fHas A.dHas
  bHas : Binds K A.dHas ["self", "calls"] []
  mHas : Meth K C "__contains__" A.fHas
  isInt : Df K mg "is_integer" sIsInt A.fisInt A.disInt ["value"]
  below : Df K mg "is_below" sBelow A.fbelow A.dbelow ["value", "count"]
  isRow : Df K mg "_is_row" sIsRow A.fisRow A.disRow ["row", "count"]
  check : Df K mg "_check_rows" sCheck A.fcheck A.dcheck ["rows"]
  after : Df K mg "state_after" sAfter A.fafter A.dafter ["rows", "calls"]
  draw : Df K mg "_law_draw" sDraw A.fdraw A.ddraw ["_law_stream", "_law_many"]
  start : Df K mg "_law_start" sStart A.fstart A.dstart ["_law_script"]
  pick : Df K mg "_law_pick" sPick A.fpick A.dpick ["_law_stream", "_law_some"]
  same : Df K mg "_law_same" sSame A.fsame A.dsame ["_law_found", "_law_due"]
  calls : Df K mg "_law_m_calls" sCalls A.fcalls A.dcalls ["_law_stream", "_law_cases", "_law_most"]
  entry : Df K mg "_law_m_entry" sEntry A.fentry A.dentry ["_law_stream", "_law_size"]
  lines : Df K mg "_law_m_lines" sLines A.flines A.dlines ["_law_stream", "_law_most"]
  belongs : Df K mg "_law_m_belongs" sBelongs A.fbelongs A.dbelongs ["_law_lines", "_law_calls"]
  led : Df K mg "_law_led" sLed A.fled A.dled ["_law_stream", "_law_lines", "_law_most"]
end PA

set_option maxHeartbeats 8000000
namespace PA
open PySem L2 RZ
open C8 (pss_cut tCut)
theorem mk_set {K : PySem.W.Frag} {C : Addr} {H : Hp} {Q : VK} {E : XK} {L : Addr} {refs : List V} {ls : List Ln} (hL : H L = some (.lst refs) ∨ H L = some (.tup refs)) (hE : Ea H (TLOf lv) refs ls) (gd : GoodL ls)
    {x dx : Addr} (nx : H x = none) (ndx : H dx = none) (nex : dx ≠ x) (kk : ∀ H', Same H H' → SetAt C H' x ls → Q .non H') :
    spInit K C [V.ref x, V.ref L] (upd (upd H dx (.own x)) x (.ins C dx [])) Q E := by
  have s1 : Same H (upd (upd H dx (.own x)) x (.ins C dx [])) := fun c o e => by
    rw [upd_ne (ne_of_none e nx), upd_ne (ne_of_none e ndx)]
    exact e
  exact ⟨x, dx, L, refs, ls, rfl, upd_same, hL.imp (fun h => s1 _ _ h) fun h => s1 _ _ h, hE.imp (fun c r q => q.imp (fun q => s1 _ _ q) fun q => s1 _ _ q), gd, fun H' ⟨T, refs', a, b, c⟩ kp => kk H' (fun c' o e => kp c' o (s1 _ _ e) (ne_of_none e nx)) ⟨dx, T, refs', a, b, c⟩⟩
theorem SetAt.kp {C : Addr} {H H' : Hp} {p a l : Addr} {n : Nat} {ls : List Ln} (m : SetAt C H p ls) (S : StreamAt H a l n) (k : Keep a l H H') : SetAt C H' p ls := by
  obtain ⟨dx, T, refs, h1, h2, h3⟩ := m
  have S0 := S
  obtain ⟨ne, ns, x, z, g1, g2, _⟩ := S
  exact ⟨dx, T, refs, k _ _ (ne_of h1 g1 (by intro z; cases z)) (ne_of h1 g2 (by intro z; cases z)) h1, k _ _ (ne_of h2 g1 (by intro z; cases z)) (ne_of h2 g2 (by intro z; cases z)) h2, EaKp h3 S0 k⟩
/-- reading `c in p` -/
theorem has_rd {K : PySem.W.Frag} {C : Addr} {H : Hp} {p c : Addr} {ls : List Ln} {zs : List Int} {E : XK} {R : VK} (m : SetAt C H p ls) (gd : GoodL ls) (hc : Sq K H c (zs.map V.int)) (hz : zs.length ≤ 1000) (k : ∀ H', Same H H' → R (.bl (aft ls zs).isSome) H') :
    ∃ a dx fs, V.ref p = .ref a ∧ H a = some (.ins C dx fs) ∧ spHas K C [.ref a, .ref c] H R E := by
  obtain ⟨dx, T, refs, h1, h2, h3⟩ := id m
  exact ⟨p, dx, _, rfl, h1, p, c, ls, zs, rfl, m, gd, hc, hz, k⟩
theorem two_ls {K : PySem.W.Frag} {H : Hp} {t1 t2 : Addr} {xs ys : List V} {ls : List Ln} (h1 : H t1 = some (.tup xs)) (h2 : H t2 = some (.tup ys)) (e1 : Ea H isLn xs ls) (e2 : Ea H isLn ys ls) (h48 : ls.length ≤ 48) : Two K H 2 (.ref t1) (.ref t2) := by
  refine .tup (SqT.of h1) (SqT.of h2) (by rw [e1.1, e2.1]) (by rw [e1.1]; exact Nat.le_trans h48 (by decide)) fun i x y hx hy => ?_
  obtain ⟨c, l, rfl, hl, q⟩ := e1.at_ hx
  obtain ⟨d, l', rfl, hl', q'⟩ := e2.at_ hy
  rw [hl] at hl'
  cases hl'
  refine .tup (SqT.of q) (SqT.of q') rfl (by show 2 ≤ sizeLine; decide) fun j x y hx hy => ?_
  rw [hx] at hy
  cases hy
  have : ∃ o, x = ev o := by
    rcases j with _ | _ | j
    · cases hx; exact ⟨_, rfl⟩
    · cases hx; exact ⟨_, rfl⟩
    · cases hx
  obtain ⟨o, rfl⟩ := this
  cases o with
  | none => exact .non _
  | some n => exact .int _ _
def spLaw (K : PySem.W.Frag) : Sp := fun vs H Q _ => ∃ (a : Addr) (ns : List Int), vs = [.ref a] ∧ SqL K H a (ns.map V.int) ∧ ns.length ≤ 63 ∧ ∀ H', Q (.bl true) H'
theorem ne_bl (b : Bool) : (!decide (V.bl b = V.bl b)) = false := by rw [decide_eq_true rfl]; rfl
section
variable {P : Program} {w : World} {K : PySem.W.Frag} {mg : Str → Option Value} {base : Heap} {C Fo : Addr} {A : Adr}
theorem scLaw : FnScope ["_law_script", "_law_stream", "_law_lines", "_law_made", "_law_turn", "_law_calls", "_law_due", "_law_other", "_law_cut", "_law_call"] ["_law_script"] (defScope sLaw) := ⟨rfl, rfl, rfl, by decide +kernel, rfl, by decide +kernel, by decide +kernel⟩
theorem ok_law {f : Addr} {fd : FuncData} (F : Fun K "law" "law" sLaw f fd) (GG : Prog K mg C Fo A) : FnOk P w K mg base CX0 7 f fd ["_law_script"] (spLaw K) := by
  have T := GG.T
  have TC := GG.TC
  have GI : FnOk P w K mg base CX0 5 A.fCI A.dCI ["self", "rows"] (spInit K C) := ok_init GG.CI T TC GG.isInt GG.below GG.isRow GG.check
  have GHas : FnOk P w K mg base CX0 2 A.fHas A.dHas ["self", "calls"] (spHas K C) := ok_has GG.FHas T TC GG.after
  have GDraw : FnOk P w K mg base CX0 1 A.fdraw A.ddraw ["_law_stream", "_law_many"] spDraw := ok_draw GG.draw.F T
  have GStart : FnOk P w K mg base CX0 1 A.fstart A.dstart ["_law_script"] (spStart K) := ok_start GG.start.F T
  have GSame : FnOk P w K mg base CX0 3 A.fsame A.dsame ["_law_found", "_law_due"] (spSame K 2) := ok_same GG.same T 2
  have GCalls : FnOk P w K mg base CX0 2 A.fcalls A.dcalls ["_law_stream", "_law_cases", "_law_most"] spCalls := ok_calls GG.calls.F T GG.draw
  have GLines : FnOk P w K mg base CX0 3 A.flines A.dlines ["_law_stream", "_law_most"] spLines := ok_lines GG.lines.F T GG.draw GG.entry
  have GBelongs : FnOk P w K mg base CX0 1 A.fbelongs A.dbelongs ["_law_lines", "_law_calls"] spBelongs := ok_belongs GG.belongs.F T
  have GLed : FnOk P w K mg base CX0 3 A.fled A.dled ["_law_stream", "_law_lines", "_law_most"] spLed := ok_led GG.led.F T GG.draw GG.pick
  refine F.ok scLaw (fun vs H Q E h => ?_) (fun cdv A0 outer s H vs Q E hr h => ?_)
  · obtain ⟨a, ns, rfl, _⟩ := h
    rfl
  · obtain ⟨a, ns, rfl, hS, hlen, kk⟩ := h
    have hr3 : Room 3 _ := hr.mono (by decide)
    have hr2 : Room 2 _ := hr.mono (by decide)
    have hr1 : Room 1 _ := hr.mono (by decide)
    refine ⟨_, pss_cons (ps_set (i := 1) scLaw.nd rfl (Or.inl rfl) (pe_call GStart hr1 rfl GG.start.M GG.start.F.kp GG.start.B .nil pass0 (pa_cons (pv 0) pa_nil)))
      (pss_cons (ps_set (i := 2) scLaw.nd rfl (Or.inl rfl) (pe_call GLines hr3 rfl GG.lines.M GG.lines.F.kp GG.lines.B .nil pass0 (pa_cons (pv 1) (pa_cons pe_int pa_nil))))
      (pss_cons (ps_set (i := 3) scLaw.nd rfl (Or.inl rfl) (pe_make GG.CM GI hr rfl TC.mgC GG.Cb .nil pass0 (pa_cons (pv 2) pa_nil)))
      (pss_cons (ps_if (PW.pt (pw_or (pt_not (pt_cmpR (op_inOwn (E := E0) GG.mHas.at_ GG.mHas.fn GHas hr2 GG.bHas pass0) (pe_tup pa_nil) (pv 3) rfl))
          (pw_or (pt_not (pt_cmpR (op_inOwn (E := E0) GG.mHas.at_ GG.mHas.fn GHas hr2 GG.bHas pass0) (pe_lst pa_nil) (pv 3) rfl))
          (pw_or (pt_not (pt_cmpR (op_inOwn (E := E0) GG.mHas.at_ GG.mHas.fn GHas hr2 GG.bHas pass0) (pe_tup (pa_cons pe_int pa_nil)) (pv 3) rfl))
          (pw_or1 (pt_not (pt_cmpR (op_inOwn (E := E0) GG.mHas.at_ GG.mHas.fn GHas hr2 GG.bHas pass0) (pe_lst (pa_cons pe_int pa_nil)) (pv 3) rfl))))))) pss_never pss_nil)
      (pss_cons (ps_for PassesOwn.never rfl (pi_range1 (by rfl) T.range_ (pa_cons pe_int pa_nil)) (pg_name (i := 4) scLaw.nd rfl (Or.inl rfl))
        (pss_cons (ps_set (i := 5) scLaw.nd rfl (Or.inl rfl) (pe_call GCalls hr2 rfl GG.calls.M GG.calls.F.kp GG.calls.B .nil pass0 (pa_cons (pv 1) (pa_cons pe_int (pa_cons pe_int pa_nil)))))
        (pss_cut (ps_if (pt_cmpR op_lt (pv 4) pe_int (nomark _)) (pss_one (ps_set (i := 5) scLaw.nd rfl (Or.inl rfl) (pe_call GLed hr3 rfl GG.led.M GG.led.F.kp GG.led.B .nil pass0 (pa_cons (pv 1) (pa_cons (pv 2) (pa_cons (pe_ifExp (pt_cmpR op_eq (pv 4) pe_int (nomark _)) pe_int pe_int) pa_nil)))))) pss_nil)
        (pss_cons (ps_set (i := 6) scLaw.nd rfl (Or.inl rfl) (pe_call GBelongs hr1 rfl GG.belongs.M GG.belongs.F.kp GG.belongs.B .nil pass0 (pa_cons (pv 2) (pa_cons (pv 5) pa_nil))))
        (pss_cons (ps_setLc (i := 7) (own := [("_law_call", 9)]) (g := gName 9) (tt := tYes) (by rfl) scLaw.nd rfl rfl (sw_true rfl rfl rfl (by decide +kernel)) (pi_list (pv 5)) (blkOk_by (N := ["_law_script", "_law_stream", "_law_lines", "_law_made", "_law_turn", "_law_calls", "_law_due", "_law_other", "_law_cut", "_law_call"]) (sc := defScope sLaw) (by decide +kernel))
            (fun _ _ _ _ _ => pg_name (i := 9) scLaw.nd rfl (Or.inl rfl)) (fun _ _ _ _ _ => pts_nil) (fun _ _ _ _ _ => pe_op op_sub pe_int (pv 9)))
        (pss_cons (ps_if (PW.pt (pw_or (pt_cmpR op_ne (pe_cmpR (op_inOwn (E := E0) GG.mHas.at_ GG.mHas.fn GHas hr2 GG.bHas pass0) (pv 5) (pv 3) rfl) (pv 6) (nomark _))
            (pw_or (pt_cmpR op_ne (pe_cmpR (op_inOwn (E := E0) GG.mHas.at_ GG.mHas.fn GHas hr2 GG.bHas pass0) (pe_callTy call_tuple_of (by rfl) T.tup_ boot_tuple' (pa_cons (pv 5) pa_nil)) (pv 3) rfl) (pv 6) (nomark _))
            (pw_or1 (pt_cmpR op_ne (pe_cmpR (op_inOwn (E := E0) GG.mHas.at_ GG.mHas.fn GHas hr2 GG.bHas pass0) (pv 7) (pv 3) rfl) (pv 6) (nomark _)))))) pss_never pss_nil)
        (pss_cons (ps_set (i := 8) scLaw.nd rfl (Or.inl rfl) (pe_call GDraw hr1 rfl GG.draw.M GG.draw.F.kp GG.draw.B .nil pass0 (pa_cons (pv 1) (pa_cons (pe_op op_add (pe_callB call_len_seq (by rfl) T.len_ PySem.boot_len (pa_cons (pv 5) pa_nil)) pe_int) pa_nil))))
        (pss_one (ps_if (PW.pt (pw_or (pt_cmpR op_ne (pe_cmpR (op_inOwn (E := E0) GG.mHas.at_ GG.mHas.fn GHas hr2 GG.bHas pass0) (pe_slice sl_list (pv 5) po_none (po_some (pv 8))) (pv 3) rfl) (pe_call GBelongs hr1 rfl GG.belongs.M GG.belongs.F.kp GG.belongs.B .nil pass0 (pa_cons (pv 2) (pa_cons (pe_slice sl_list (pv 5) po_none (po_some (pv 8))) pa_nil))) (nomark _))
            (pw_or1 (PW.pt (pw_and (pt_val (pv 6)) (pw_and1 (pt_cmpR (op_notInOwn (E := E0) GG.mHas.at_ GG.mHas.fn GHas hr2 GG.bHas pass0) (pe_slice sl_list (pv 5) po_none (po_some (pv 8))) (pv 3) rfl))))))) pss_never pss_nil)))))))))
      (pss_one (ps_ret (pe_call GSame hr3 rfl GG.same.M GG.same.F.kp GG.same.B .nil pass0 (pa_cons (pe_fld (pv 3) rfl) (pa_cons (pe_callTy call_tuple_of (by rfl) T.tup_ boot_tuple' (pa_cons (pv 2) pa_nil)) pa_nil))))))))), ?_⟩
    refine ⟨_, rfl, a, ns, rfl, hS, hlen, fun sa sl H1 S1 _ _ s1 => ?_⟩
    refine ⟨_, rfl, sa, sl, 0, 12, rfl, S1, by decide, by decide, by decide, fun L refs ls n2 H2 hL hL0 La Ll hE gd S2 hn2 k2 => ?_⟩
    refine ⟨_, rfl, ?_⟩
    refine fun p dx np ndx nep => mk_set (.inl hL) (hE.imp fun c r q => .inl q) gd np ndx nep fun H3 s3 hp3 => ⟨rfl, ?_⟩
    have hL3 := s3 _ _ hL
    have hE3 := hE.same s3
    have S3 := S2.same s3
    have one := gd.one
    have h48 := gd.most
    refine ⟨by show 0 ≤ sizeLine; decide, fun t1 ht1 => ⟨_, rfl, ?_⟩⟩
    have e1 := new_ (o := .tup []) ht1
    refine has_rd (zs := []) (hp3.same e1) gd (.inr (SqT.of upd_same)) (by decide) fun H4 s4 => ⟨_, rfl, true, rfl, iteF ?_⟩
    have q4 := e1.trans s4
    refine ⟨by show 0 ≤ sizeLine; decide, fun t2 ht2 => ⟨_, rfl, ?_⟩⟩
    have e2 := new_ (o := .lst []) ht2
    refine has_rd (zs := []) (hp3.same (q4.trans e2)) gd (.inl (SqL.of upd_same)) (by decide) fun H5 s5 => ⟨_, rfl, true, rfl, iteF ?_⟩
    have q5 := (q4.trans e2).trans s5
    refine ⟨by show 1 ≤ sizeLine; decide, fun t3 ht3 => ⟨_, rfl, ?_⟩⟩
    have e3 := new_ (o := .tup [.int 0]) ht3
    refine has_rd (zs := [0]) (hp3.same (q5.trans e3)) gd (.inr (SqT.of upd_same)) (by decide) fun H6 s6 => ⟨_, rfl, true, rfl, iteF ?_⟩
    have q6 := (q5.trans e3).trans s6
    refine ⟨by show 1 ≤ sizeLine; decide, fun t4 ht4 => ⟨_, rfl, ?_⟩⟩
    have e4 := new_ (o := .lst [.int 1]) ht4
    refine has_rd (zs := [1]) (hp3.same (q6.trans e4)) gd (.inl (SqL.of upd_same)) (by decide) fun H7 s7 => ⟨_, rfl, true, rfl, iteF ?_⟩
    have q7 := (q6.trans e4).trans s7
    have hL7 := q7 _ _ hL3
    have hE7 := hE3.same q7
    have S7 := S3.same q7
    have hp7 := hp3.same q7
    clear hp3 hE3 hL3 S3 q4 q5 q6 e1 e2 e3 e4 s4 s5 s6 s7
    refine ⟨12, rfl, by decide, by decide, ?_⟩
    refine for_range (n := 12) (fun i σ' H' => ∃ x4 x5 x6 x7 x8 x9 n', σ' = [some (.ref a), some (.ref sa), some (.ref L), some (.ref p), x4, x5, x6, x7, x8, x9] ∧ n' ≤ 200 + 900 * i ∧ StreamAt H' sa sl n' ∧ Keep sa sl H7 H') ?_ ?_ ?_
    · exact ⟨none, none, none, none, none, none, n2, rfl, by omega, S7, Keep.refl _ _ _⟩
    · rintro i _ H8 hi ⟨x4, x5, x6, x7, x8, x9, n8, rfl, hn8, S8, k8⟩
      refine ⟨_, rfl, sa, sl, n8, 2, 40, rfl, S8, by omega, by decide, by decide, by decide, by decide, fun c0 z0 n9 H9 hc9 _ c9a c9l hz9 S9 hn9 k9 => ?_⟩
      have k89 := k8.trans k9
      refine ⟨fun σ' H' => ∃ c zs n', σ' = [some (.ref a), some (.ref sa), some (.ref L), some (.ref p), some (.int (0 + (i : Int))), some (.ref c), x6, x7, x8, x9] ∧ (zs : List Int).length ≤ 401 ∧ n' ≤ n8 + 890 ∧ StreamAt H' sa sl n' ∧ Keep sa sl H7 H' ∧ H' c = some (.lst (zs.map V.int)) ∧ c ≠ sa ∧ c ≠ sl, ?_, ?_⟩
      · have n9' : n9 ≤ n8 + 81 := hn9
        refine ⟨_, rfl, _, _, rfl, rfl, _, rfl, ifD_2 (fun _ => ?_) (fun _ => ?_)⟩
        · have hL9 := k89 _ _ La Ll hL7
          have hE9 := EaKp hE7 S7 k89
          refine ⟨_, rfl, _, rfl, _, rfl, rfl, _, rfl, ifD_2 (fun _ => ?_) (fun _ => ?_)⟩
          · refine ⟨sa, sl, L, n9, refs, ls, 400, rfl, S9, by omega, hL9, La, Ll, hE9, gd, by decide, by decide, fun c zs n' H' hc _ ca cl hz S' hn' k' => ⟨c, zs, n', rfl, by omega, by omega, S', k89.trans k', hc, ca, cl⟩⟩
          · refine ⟨sa, sl, L, n9, refs, ls, 40, rfl, S9, by omega, hL9, La, Ll, hE9, gd, by decide, by decide, fun c zs n' H' hc _ ca cl hz S' hn' k' => ⟨c, zs, n', rfl, by omega, by omega, S', k89.trans k', hc, ca, cl⟩⟩
        · exact ⟨c0, z0, n9, rfl, by omega, by omega, S9, k89, hc9, c9a, c9l⟩
      rintro _ H10 ⟨c, zs, n10, rfl, hz, hn10, S10, k10, hc, ca, cl⟩
      have hL10 := k10 _ _ La Ll hL7
      have hE10 := EaKp hE7 S7 k10
      have hp10 := hp7.kp S7 k10
      have hz1 : zs.length ≤ 1000 := by omega
      refine ⟨_, rfl, _, rfl, L, c, refs, ls, zs, rfl, hL10, hE10, gd, hc, hz1, fun H11 s11 => ?_⟩
      have hc11 := s11 _ _ hc
      refine ⟨_, rfl, c, rfl, ⟨_, SqL.of hc11⟩, fun Dd hD => ?_⟩
      refine lc_same (walk_l (K := K) (a := c) (xs := zs.map V.int)) (by rw [List.length_map]; exact Nat.le_trans hz1 (by decide)) hD (fun H' s' => SqL.of (s' _ _ hc11)) ((zs.map fun z => 1 - z).map V.int) (by simp) (fun j x y H' Φ Ψ hx hy sm k => ?_) fun H12 s12 hd12 => ?_
      · rw [List.getElem?_map, Option.map_eq_some_iff] at hx hy
        obtain ⟨x, hx, rfl⟩ := hx
        obtain ⟨y, hy, rfl⟩ := hy
        rw [List.getElem?_map, hx] at hy
        cases hy
        refine ⟨rfl, ?_⟩
        dsimp only [tYes]
        rw [if_pos rfl]
        exact ⟨_, rfl, _, _, rfl, rfl, k H' fun _ _ e => e⟩
      have q12 := s11.trans s12
      have hc12 := q12 _ _ hc
      refine ⟨_, rfl, _, rfl, ?_⟩
      refine has_rd (hp10.same q12) gd (.inl (SqL.of hc12)) hz1 fun H13 s13 => ⟨_, rfl, _, rfl, rfl, _, rfl, iteNS rfl ?_⟩
      have q13 := q12.trans s13
      have hc13 := q13 _ _ hc
      refine ⟨_, rfl, c, _, rfl, .inl ⟨SqL.of hc13, fun u hu => ?_⟩⟩
      have eu := new_ (o := .tup (zs.map V.int)) hu
      refine ⟨_, rfl, ?_⟩
      refine has_rd (hp10.same (q13.trans eu)) gd (.inr (SqT.of upd_same)) hz1 fun H14 s14 => ⟨_, rfl, _, rfl, rfl, _, rfl, iteNS rfl ?_⟩
      have q14 := (q13.trans eu).trans s14
      refine ⟨_, rfl, _, rfl, ?_⟩
      refine has_rd (zs := zs.map fun z => 1 - z) (hp10.same q14) gd (.inl (SqL.of (s14 _ _ (eu _ _ (s13 _ _ hd12))))) (by rw [List.length_map]; exact hz1) fun H15 s15 => ⟨_, rfl, _, rfl, rfl, _, rfl, ?_⟩
      rw [aft_flip]
      refine iteNS rfl ?_
      have q15 := q14.trans s15
      have hc15 := q15 _ _ hc
      refine ⟨_, rfl, _, rfl, c, _, rfl, .inl (SqL.of hc15), _, _, rfl, rfl, sa, sl, n10, _, rfl, S10.same q15, by omega, ?_, ?_, fun r H16 r0 r1 S16 k16 => ?_⟩
      · omega
      · rw [List.length_map]
        exact sm4 (by omega) (by omega)
      obtain ⟨m, rfl⟩ : ∃ m : Nat, r = (m : Int) := ⟨r.toNat, (Int.toNat_of_nonneg r0).symm⟩
      have k716 := (k10.trans (Keep.of q15)).trans k16
      have hc16 := k16 _ _ ca cl hc15
      have hL16 := k716 _ _ La Ll hL7
      have hE16 := EaKp hE7 S7 k716
      have hp16 := hp7.kp S7 k716
      have ecut : cutV (zs.map V.int) none (some (m : Int)) = (zs.take m).map V.int := by rw [cut_to, List.map_take]
      have hzm : (zs.take m).length ≤ 1000 := by rw [List.length_take]; omega
      refine ⟨_, rfl, _, rfl, _, rfl, c, _, rfl, SqL.of hc16, fun u1 hu1 => ?_⟩
      rw [ecut]
      have f1 := new_ (o := .lst ((zs.take m).map V.int)) hu1
      refine ⟨_, rfl, ?_⟩
      refine has_rd (hp16.same f1) gd (.inl (SqL.of upd_same)) hzm fun H17 s17 => ⟨_, rfl, ?_⟩
      have q17 := f1.trans s17
      refine ⟨_, rfl, _, rfl, _, rfl, _, rfl, c, _, rfl, SqL.of (q17 _ _ hc16), fun u2 hu2 => ?_⟩
      rw [ecut]
      have f2 := new_ (o := .lst ((zs.take m).map V.int)) hu2
      refine ⟨L, u2, refs, ls, zs.take m, rfl, f2 _ _ (q17 _ _ hL16), (hE16.same q17).same f2, gd, upd_same, hzm, fun H18 s18 => ⟨rfl, _, rfl, iteNS rfl ?_⟩⟩
      have q18 := (q17.trans f2).trans s18
      have fin : ∀ H19, Same H18 H19 → ∃ y4 y5 y6 y7 y8 y9 n', [some (V.ref a), some (.ref sa), some (.ref L), some (.ref p), some (.int (0 + (i : Int))), some (.ref c), some (.bl (aft ls zs).isSome), some (.ref Dd), some (.int (m : Int)), x9] = [some (.ref a), some (.ref sa), some (.ref L), some (.ref p), y4, y5, y6, y7, y8, y9] ∧ n' ≤ 200 + 900 * (i + 1) ∧ StreamAt H19 sa sl n' ∧ Keep sa sl H7 H19 :=
        fun H19 s19 => ⟨_, _, _, _, _, x9, n10 + 1, rfl, by omega, S16.same (q18.trans s19), k716.trans (Keep.of (q18.trans s19))⟩
      refine ⟨_, rfl, _, rfl, ?_⟩
      cases hd : (aft ls zs).isSome with
      | false =>
        have := fin H18 (fun _ _ e => e)
        rw [hd] at this
        exact iteF (iteF this)
      | true =>
        refine iteT ?_
        refine ⟨_, rfl, _, rfl, _, rfl, c, _, rfl, SqL.of (q18 _ _ hc16), fun u3 hu3 => ?_⟩
        rw [ecut]
        have f3 := new_ (o := .lst ((zs.take m).map V.int)) hu3
        refine ⟨_, rfl, ?_⟩
        refine has_rd ((hp16.same q18).same f3) gd (.inl (SqL.of upd_same)) hzm fun H19 s19 => ⟨_, rfl, ?_⟩
        rw [aft_take m hd]
        have := fin H19 (f3.trans s19)
        rw [hd] at this
        exact ⟨_, rfl, iteF this⟩
    · rintro _ H8 ⟨x4, x5, x6, x7, x8, x9, n8, rfl, hn8, S8, k8⟩
      have hL8 := k8 _ _ La Ll hL7
      have hE8 := EaKp hE7 S7 k8
      obtain ⟨dx8, T8, r8, h81, h82, h83⟩ := hp7.kp S7 k8
      refine ⟨_, rfl, p, C, dx8, _, _, rfl, h81, TC.cl, TC.nR, rsf_rows T8, _, rfl, L, _, rfl, .inl ⟨SqL.of hL8, fun u hu => ?_⟩⟩
      have eu := new_ (o := .tup refs) hu
      exact ⟨_, _, rfl, two_ls (eu _ _ h82) upd_same (h83.same eu) (hE8.same eu) h48, fun H9 _ => kk H9⟩
end
end PA

set_option maxHeartbeats 8000000
namespace PA
open PySem L2 RZ
theorem kit_cls {K : PySem.W.Frag} {C : Addr} {t : String} (h2 : PySem.W.isClsIn K C = true) (h3 : PySem.W.typeIn K (.ref C) = some (.type "type")) (h4 : PySem.W.subIn K (.type t) (.ref C) = some false) : PySem.W.kitOne K (.type t) (.ref C) = some false := by
  have e2 : ((PySem.W.clsIn K C).isSome && PySem.W.typeIn K (.ref C) == some (.type "type")) = true := by
    have h2' : (PySem.W.clsIn K C).isSome = true := h2
    rw [h2', h3] <;> rfl
  unfold PySem.W.kitOne
  rw [if_neg (by simp)]
  show (if ((PySem.W.clsIn K C).isSome && PySem.W.typeIn K (.ref C) == some (.type "type")) = true then PySem.W.subIn K (.type t) (.ref C) else none) = some false
  rw [if_pos e2]
  exact h4
theorem all_mk {l : PySem.W.OpenLaw} {w : World} {K : PySem.W.Frag} {h : Heap} {mg : Str → Option Value} {fa C Fo gCI gHas gisInt gbelow gisRow gcheck gafter gdraw gstart gpick gsame gcalls gentry glines gbelongs gled gLaw : Addr} (X : K.In h) (G : h.Ns mainGlobals mg) (hfa : mg "law" = some (.ref fa))
    {ocCI kVCI dcCI pmCI cdCI ctCI : Value} {odCI anCI : Option Addr} {slCI : Array (Option Value)} {ocHas kVHas dcHas pmHas cdHas ctHas : Value} {odHas anHas : Option Addr} {slHas : Array (Option Value)} {ocisInt kVisInt dcisInt pmisInt cdisInt ctisInt : Value} {odisInt anisInt : Option Addr} {slisInt : Array (Option Value)} {ocbelow kVbelow dcbelow pmbelow cdbelow ctbelow : Value} {odbelow anbelow : Option Addr} {slbelow : Array (Option Value)} {ocisRow kVisRow dcisRow pmisRow cdisRow ctisRow : Value} {odisRow anisRow : Option Addr} {slisRow : Array (Option Value)} {occheck kVcheck dccheck pmcheck cdcheck ctcheck : Value} {odcheck ancheck : Option Addr} {slcheck : Array (Option Value)} {ocafter kVafter dcafter pmafter cdafter ctafter : Value} {odafter anafter : Option Addr} {slafter : Array (Option Value)} {ocdraw kVdraw dcdraw pmdraw cddraw ctdraw : Value} {oddraw andraw : Option Addr} {sldraw : Array (Option Value)} {ocstart kVstart dcstart pmstart cdstart ctstart : Value} {odstart anstart : Option Addr} {slstart : Array (Option Value)} {ocpick kVpick dcpick pmpick cdpick ctpick : Value} {odpick anpick : Option Addr} {slpick : Array (Option Value)} {ocsame kVsame dcsame pmsame cdsame ctsame : Value} {odsame ansame : Option Addr} {slsame : Array (Option Value)} {occalls kVcalls dccalls pmcalls cdcalls ctcalls : Value} {odcalls ancalls : Option Addr} {slcalls : Array (Option Value)} {ocentry kVentry dcentry pmentry cdentry ctentry : Value} {odentry anentry : Option Addr} {slentry : Array (Option Value)} {oclines kVlines dclines pmlines cdlines ctlines : Value} {odlines anlines : Option Addr} {sllines : Array (Option Value)} {ocbelongs kVbelongs dcbelongs pmbelongs cdbelongs ctbelongs : Value} {odbelongs anbelongs : Option Addr} {slbelongs : Array (Option Value)} {ocled kVled dcled pmled cdled ctled : Value} {odled anled : Option Addr} {slled : Array (Option Value)} {ocLaw kVLaw dcLaw pmLaw cdLaw ctLaw : Value} {odLaw anLaw : Option Addr} {slLaw : Array (Option Value)} {tkM : Tok}
    (aC : PySem.W.nsIn K mainGlobals "RowSet" = some (some (.ref C)))
    (pgC : PySem.W.plainGet K C Str.empty = true)
    (hdC : PySem.W.hasDictIn K C = true)
    (poC : PySem.W.plainOver K C = true)
    (saC : PySem.W.findIn K (.ref C) "__setattr__" = some (some (.builtin "object.__setattr__")))
    (kcC : PySem.W.keepIn K (.ref C) = true)
    (nCrows : PySem.W.findIn K (.ref C) "rows" = some none)
    (aCI : PySem.W.findIn K (.ref C) "__init__" = some (some (.ref gCI)))
    (lCI : K.lookup gCI = some ⟨ocCI, odCI, .func (PySem.W.fnOf "__init__" "RowSet.__init__" (defArgs sInit) (defBody sInit) (defScope sInit) .none kVCI dcCI pmCI anCI cdCI ctCI), slCI⟩)
    (cCI : PySem.W.codeIn K cdCI "RowSet.__init__" = true)
    (kCI : PySem.W.keepIn K (.ref gCI) = true)
    (iCI : PySem.W.isFn K (.ref gCI) = true)
    (mkC : PySem.W.makesIn K C = true)
    (aHas : PySem.W.findIn K (.ref C) "__contains__" = some (some (.ref gHas)))
    (lHas : K.lookup gHas = some ⟨ocHas, odHas, .func (PySem.W.fnOf "__contains__" "RowSet.__contains__" (defArgs sHas) (defBody sHas) (defScope sHas) .none kVHas dcHas pmHas anHas cdHas ctHas), slHas⟩)
    (cHas : PySem.W.codeIn K cdHas "RowSet.__contains__" = true)
    (kHas : PySem.W.keepIn K (.ref gHas) = true)
    (iHas : PySem.W.isFn K (.ref gHas) = true)
    (aisInt : PySem.W.nsIn K mainGlobals "is_integer" = some (some (.ref gisInt)))
    (lisInt : K.lookup gisInt = some ⟨ocisInt, odisInt, .func (PySem.W.fnOf "is_integer" "is_integer" (defArgs sIsInt) (defBody sIsInt) (defScope sIsInt) .none kVisInt dcisInt pmisInt anisInt cdisInt ctisInt), slisInt⟩)
    (cisInt : PySem.W.codeIn K cdisInt "is_integer" = true)
    (kisInt : PySem.W.keepIn K (.ref gisInt) = true)
    (abelow : PySem.W.nsIn K mainGlobals "is_below" = some (some (.ref gbelow)))
    (lbelow : K.lookup gbelow = some ⟨ocbelow, odbelow, .func (PySem.W.fnOf "is_below" "is_below" (defArgs sBelow) (defBody sBelow) (defScope sBelow) .none kVbelow dcbelow pmbelow anbelow cdbelow ctbelow), slbelow⟩)
    (cbelow : PySem.W.codeIn K cdbelow "is_below" = true)
    (kbelow : PySem.W.keepIn K (.ref gbelow) = true)
    (aisRow : PySem.W.nsIn K mainGlobals "_is_row" = some (some (.ref gisRow)))
    (lisRow : K.lookup gisRow = some ⟨ocisRow, odisRow, .func (PySem.W.fnOf "_is_row" "_is_row" (defArgs sIsRow) (defBody sIsRow) (defScope sIsRow) .none kVisRow dcisRow pmisRow anisRow cdisRow ctisRow), slisRow⟩)
    (cisRow : PySem.W.codeIn K cdisRow "_is_row" = true)
    (kisRow : PySem.W.keepIn K (.ref gisRow) = true)
    (acheck : PySem.W.nsIn K mainGlobals "_check_rows" = some (some (.ref gcheck)))
    (lcheck : K.lookup gcheck = some ⟨occheck, odcheck, .func (PySem.W.fnOf "_check_rows" "_check_rows" (defArgs sCheck) (defBody sCheck) (defScope sCheck) .none kVcheck dccheck pmcheck ancheck cdcheck ctcheck), slcheck⟩)
    (ccheck : PySem.W.codeIn K cdcheck "_check_rows" = true)
    (kcheck : PySem.W.keepIn K (.ref gcheck) = true)
    (aafter : PySem.W.nsIn K mainGlobals "state_after" = some (some (.ref gafter)))
    (lafter : K.lookup gafter = some ⟨ocafter, odafter, .func (PySem.W.fnOf "state_after" "state_after" (defArgs sAfter) (defBody sAfter) (defScope sAfter) .none kVafter dcafter pmafter anafter cdafter ctafter), slafter⟩)
    (cafter : PySem.W.codeIn K cdafter "state_after" = true)
    (kafter : PySem.W.keepIn K (.ref gafter) = true)
    (adraw : PySem.W.nsIn K mainGlobals "_law_draw" = some (some (.ref gdraw)))
    (ldraw : K.lookup gdraw = some ⟨ocdraw, oddraw, .func (PySem.W.fnOf "_law_draw" "_law_draw" (defArgs sDraw) (defBody sDraw) (defScope sDraw) .none kVdraw dcdraw pmdraw andraw cddraw ctdraw), sldraw⟩)
    (cdraw : PySem.W.codeIn K cddraw "_law_draw" = true)
    (kdraw : PySem.W.keepIn K (.ref gdraw) = true)
    (astart : PySem.W.nsIn K mainGlobals "_law_start" = some (some (.ref gstart)))
    (lstart : K.lookup gstart = some ⟨ocstart, odstart, .func (PySem.W.fnOf "_law_start" "_law_start" (defArgs sStart) (defBody sStart) (defScope sStart) .none kVstart dcstart pmstart anstart cdstart ctstart), slstart⟩)
    (cstart : PySem.W.codeIn K cdstart "_law_start" = true)
    (kstart : PySem.W.keepIn K (.ref gstart) = true)
    (apick : PySem.W.nsIn K mainGlobals "_law_pick" = some (some (.ref gpick)))
    (lpick : K.lookup gpick = some ⟨ocpick, odpick, .func (PySem.W.fnOf "_law_pick" "_law_pick" (defArgs sPick) (defBody sPick) (defScope sPick) .none kVpick dcpick pmpick anpick cdpick ctpick), slpick⟩)
    (cpick : PySem.W.codeIn K cdpick "_law_pick" = true)
    (kpick : PySem.W.keepIn K (.ref gpick) = true)
    (asame : PySem.W.nsIn K mainGlobals "_law_same" = some (some (.ref gsame)))
    (lsame : K.lookup gsame = some ⟨ocsame, odsame, .func (PySem.W.fnOf "_law_same" "_law_same" (defArgs sSame) (defBody sSame) (defScope sSame) .none kVsame dcsame pmsame ansame cdsame ctsame), slsame⟩)
    (csame : PySem.W.codeIn K cdsame "_law_same" = true)
    (ksame : PySem.W.keepIn K (.ref gsame) = true)
    (acalls : PySem.W.nsIn K mainGlobals "_law_m_calls" = some (some (.ref gcalls)))
    (lcalls : K.lookup gcalls = some ⟨occalls, odcalls, .func (PySem.W.fnOf "_law_m_calls" "_law_m_calls" (defArgs sCalls) (defBody sCalls) (defScope sCalls) .none kVcalls dccalls pmcalls ancalls cdcalls ctcalls), slcalls⟩)
    (ccalls : PySem.W.codeIn K cdcalls "_law_m_calls" = true)
    (kcalls : PySem.W.keepIn K (.ref gcalls) = true)
    (aentry : PySem.W.nsIn K mainGlobals "_law_m_entry" = some (some (.ref gentry)))
    (lentry : K.lookup gentry = some ⟨ocentry, odentry, .func (PySem.W.fnOf "_law_m_entry" "_law_m_entry" (defArgs sEntry) (defBody sEntry) (defScope sEntry) .none kVentry dcentry pmentry anentry cdentry ctentry), slentry⟩)
    (centry : PySem.W.codeIn K cdentry "_law_m_entry" = true)
    (kentry : PySem.W.keepIn K (.ref gentry) = true)
    (alines : PySem.W.nsIn K mainGlobals "_law_m_lines" = some (some (.ref glines)))
    (llines : K.lookup glines = some ⟨oclines, odlines, .func (PySem.W.fnOf "_law_m_lines" "_law_m_lines" (defArgs sLines) (defBody sLines) (defScope sLines) .none kVlines dclines pmlines anlines cdlines ctlines), sllines⟩)
    (clines : PySem.W.codeIn K cdlines "_law_m_lines" = true)
    (klines : PySem.W.keepIn K (.ref glines) = true)
    (abelongs : PySem.W.nsIn K mainGlobals "_law_m_belongs" = some (some (.ref gbelongs)))
    (lbelongs : K.lookup gbelongs = some ⟨ocbelongs, odbelongs, .func (PySem.W.fnOf "_law_m_belongs" "_law_m_belongs" (defArgs sBelongs) (defBody sBelongs) (defScope sBelongs) .none kVbelongs dcbelongs pmbelongs anbelongs cdbelongs ctbelongs), slbelongs⟩)
    (cbelongs : PySem.W.codeIn K cdbelongs "_law_m_belongs" = true)
    (kbelongs : PySem.W.keepIn K (.ref gbelongs) = true)
    (aled : PySem.W.nsIn K mainGlobals "_law_led" = some (some (.ref gled)))
    (lled : K.lookup gled = some ⟨ocled, odled, .func (PySem.W.fnOf "_law_led" "_law_led" (defArgs sLed) (defBody sLed) (defScope sLed) .none kVled dcled pmled anled cdled ctled), slled⟩)
    (cled : PySem.W.codeIn K cdled "_law_led" = true)
    (kled : PySem.W.keepIn K (.ref gled) = true)
    (aLaw : PySem.W.nsIn K mainGlobals "law" = some (some (.ref gLaw)))
    (lLaw : K.lookup gLaw = some ⟨ocLaw, odLaw, .func (PySem.W.fnOf "law" "law" (defArgs sLaw) (defBody sLaw) (defScope sLaw) .none kVLaw dcLaw pmLaw anLaw cdLaw ctLaw), slLaw⟩)
    (cLaw : PySem.W.codeIn K cdLaw "law" = true)
    (kLaw : PySem.W.keepIn K (.ref gLaw) = true)
    (aFo : PySem.W.nsIn K mainGlobals "Found" = some (some (.ref Fo)))
    (zisinstance : PySem.W.nsIn K mainGlobals "isinstance" = some none)
    (zint : PySem.W.nsIn K mainGlobals "int" = some none)
    (zbool : PySem.W.nsIn K mainGlobals "bool" = some none)
    (zlist : PySem.W.nsIn K mainGlobals "list" = some none)
    (ztuple : PySem.W.nsIn K mainGlobals "tuple" = some none)
    (zlen : PySem.W.nsIn K mainGlobals "len" = some none)
    (zall : PySem.W.nsIn K mainGlobals "all" = some none)
    (zzip : PySem.W.nsIn K mainGlobals "zip" = some none)
    (zrange : PySem.W.nsIn K mainGlobals "range" = some none)
    (zenumerate : PySem.W.nsIn K mainGlobals "enumerate" = some none)
    (aMost : PySem.W.nsIn K mainGlobals "MOST_ROWS" = some (some (.int 48 tkM)))
    (iCF : PySem.W.isClsIn K Fo = true)
    (tCF : PySem.W.typeIn K (.ref Fo) = some (.type "type"))
    (sLF : PySem.W.subIn K (.type "list") (.ref Fo) = some false)
    (sTF : PySem.W.subIn K (.type "tuple") (.ref Fo) = some false) :
    ∃ fd : FuncData, (∀ (s : Shared) (v : Value), BindsTo s fd ⟨[v], []⟩ [("_law_script", v)]) ∧ ∀ base : Heap, K.In base → base.Ns mainGlobals mg → FnOk l.prog w K mg base CX0 7 fa fd ["_law_script"] (spLaw K) := by
  have e := hfa.symm.trans (PySem.W.mg_of X G aLaw)
  cases e
  have T : Txt K mg := ⟨PySem.W.mg_none_of X G zisinstance, PySem.W.mg_none_of X G zint, PySem.W.mg_none_of X G zbool, PySem.W.mg_none_of X G zlist, PySem.W.mg_none_of X G ztuple, PySem.W.mg_none_of X G zlen, PySem.W.mg_none_of X G zall, PySem.W.mg_none_of X G zzip, PySem.W.mg_none_of X G zrange, PySem.W.mg_none_of X G zenumerate, ⟨tkM, PySem.W.mg_of X G aMost⟩⟩
  have FCI := fun_mk (st := sInit) lCI cCI kCI
  have bCI := FCI.binds (ps := ["self", "rows"]) fun _ _ _ _ _ _ us hl => match us, hl with | [_, _], _ => rfl
  have FHas := fun_mk (st := sHas) lHas cHas kHas
  have bHas := FHas.binds (ps := ["self", "calls"]) fun _ _ _ _ _ _ us hl => match us, hl with | [_, _], _ => rfl
  have FisInt := fun_mk (st := sIsInt) lisInt cisInt kisInt
  have bisInt := FisInt.binds (ps := ["value"]) fun _ _ _ _ _ _ us hl => match us, hl with | [_], _ => rfl
  have Fbelow := fun_mk (st := sBelow) lbelow cbelow kbelow
  have bbelow := Fbelow.binds (ps := ["value", "count"]) fun _ _ _ _ _ _ us hl => match us, hl with | [_, _], _ => rfl
  have FisRow := fun_mk (st := sIsRow) lisRow cisRow kisRow
  have bisRow := FisRow.binds (ps := ["row", "count"]) fun _ _ _ _ _ _ us hl => match us, hl with | [_, _], _ => rfl
  have Fcheck := fun_mk (st := sCheck) lcheck ccheck kcheck
  have bcheck := Fcheck.binds (ps := ["rows"]) fun _ _ _ _ _ _ us hl => match us, hl with | [_], _ => rfl
  have Fafter := fun_mk (st := sAfter) lafter cafter kafter
  have bafter := Fafter.binds (ps := ["rows", "calls"]) fun _ _ _ _ _ _ us hl => match us, hl with | [_, _], _ => rfl
  have Fdraw := fun_mk (st := sDraw) ldraw cdraw kdraw
  have bdraw := Fdraw.binds (ps := ["_law_stream", "_law_many"]) fun _ _ _ _ _ _ us hl => match us, hl with | [_, _], _ => rfl
  have Fstart := fun_mk (st := sStart) lstart cstart kstart
  have bstart := Fstart.binds (ps := ["_law_script"]) fun _ _ _ _ _ _ us hl => match us, hl with | [_], _ => rfl
  have Fpick := fun_mk (st := sPick) lpick cpick kpick
  have bpick := Fpick.binds (ps := ["_law_stream", "_law_some"]) fun _ _ _ _ _ _ us hl => match us, hl with | [_, _], _ => rfl
  have Fsame := fun_mk (st := sSame) lsame csame ksame
  have bsame := Fsame.binds (ps := ["_law_found", "_law_due"]) fun _ _ _ _ _ _ us hl => match us, hl with | [_, _], _ => rfl
  have Fcalls := fun_mk (st := sCalls) lcalls ccalls kcalls
  have bcalls := Fcalls.binds (ps := ["_law_stream", "_law_cases", "_law_most"]) fun _ _ _ _ _ _ us hl => match us, hl with | [_, _, _], _ => rfl
  have Fentry := fun_mk (st := sEntry) lentry centry kentry
  have bentry := Fentry.binds (ps := ["_law_stream", "_law_size"]) fun _ _ _ _ _ _ us hl => match us, hl with | [_, _], _ => rfl
  have Flines := fun_mk (st := sLines) llines clines klines
  have blines := Flines.binds (ps := ["_law_stream", "_law_most"]) fun _ _ _ _ _ _ us hl => match us, hl with | [_, _], _ => rfl
  have Fbelongs := fun_mk (st := sBelongs) lbelongs cbelongs kbelongs
  have bbelongs := Fbelongs.binds (ps := ["_law_lines", "_law_calls"]) fun _ _ _ _ _ _ us hl => match us, hl with | [_, _], _ => rfl
  have Fled := fun_mk (st := sLed) lled cled kled
  have bled := Fled.binds (ps := ["_law_stream", "_law_lines", "_law_most"]) fun _ _ _ _ _ _ us hl => match us, hl with | [_, _, _], _ => rfl
  have PR : Prog K mg C Fo ⟨gCI, PySem.W.fnOf "__init__" "RowSet.__init__" (defArgs sInit) (defBody sInit) (defScope sInit) .none kVCI dcCI pmCI anCI cdCI ctCI, gHas, PySem.W.fnOf "__contains__" "RowSet.__contains__" (defArgs sHas) (defBody sHas) (defScope sHas) .none kVHas dcHas pmHas anHas cdHas ctHas, gisInt, PySem.W.fnOf "is_integer" "is_integer" (defArgs sIsInt) (defBody sIsInt) (defScope sIsInt) .none kVisInt dcisInt pmisInt anisInt cdisInt ctisInt, gbelow, PySem.W.fnOf "is_below" "is_below" (defArgs sBelow) (defBody sBelow) (defScope sBelow) .none kVbelow dcbelow pmbelow anbelow cdbelow ctbelow, gisRow, PySem.W.fnOf "_is_row" "_is_row" (defArgs sIsRow) (defBody sIsRow) (defScope sIsRow) .none kVisRow dcisRow pmisRow anisRow cdisRow ctisRow, gcheck, PySem.W.fnOf "_check_rows" "_check_rows" (defArgs sCheck) (defBody sCheck) (defScope sCheck) .none kVcheck dccheck pmcheck ancheck cdcheck ctcheck, gafter, PySem.W.fnOf "state_after" "state_after" (defArgs sAfter) (defBody sAfter) (defScope sAfter) .none kVafter dcafter pmafter anafter cdafter ctafter, gdraw, PySem.W.fnOf "_law_draw" "_law_draw" (defArgs sDraw) (defBody sDraw) (defScope sDraw) .none kVdraw dcdraw pmdraw andraw cddraw ctdraw, gstart, PySem.W.fnOf "_law_start" "_law_start" (defArgs sStart) (defBody sStart) (defScope sStart) .none kVstart dcstart pmstart anstart cdstart ctstart, gpick, PySem.W.fnOf "_law_pick" "_law_pick" (defArgs sPick) (defBody sPick) (defScope sPick) .none kVpick dcpick pmpick anpick cdpick ctpick, gsame, PySem.W.fnOf "_law_same" "_law_same" (defArgs sSame) (defBody sSame) (defScope sSame) .none kVsame dcsame pmsame ansame cdsame ctsame, gcalls, PySem.W.fnOf "_law_m_calls" "_law_m_calls" (defArgs sCalls) (defBody sCalls) (defScope sCalls) .none kVcalls dccalls pmcalls ancalls cdcalls ctcalls, gentry, PySem.W.fnOf "_law_m_entry" "_law_m_entry" (defArgs sEntry) (defBody sEntry) (defScope sEntry) .none kVentry dcentry pmentry anentry cdentry ctentry, glines, PySem.W.fnOf "_law_m_lines" "_law_m_lines" (defArgs sLines) (defBody sLines) (defScope sLines) .none kVlines dclines pmlines anlines cdlines ctlines, gbelongs, PySem.W.fnOf "_law_m_belongs" "_law_m_belongs" (defArgs sBelongs) (defBody sBelongs) (defScope sBelongs) .none kVbelongs dcbelongs pmbelongs anbelongs cdbelongs ctbelongs, gled, PySem.W.fnOf "_law_led" "_law_led" (defArgs sLed) (defBody sLed) (defScope sLed) .none kVled dcled pmled anled cdled ctled⟩ := ⟨T, ⟨⟨pgC, hdC, poC, saC⟩, nCrows, PySem.W.mg_of X G aC, PySem.W.mg_of X G aFo, kit_cls iCF tCF sLF, kit_cls iCF tCF sTF⟩, FCI, ⟨mkC, aCI, iCI, kcC⟩, bCI, FHas, bHas, ⟨aHas, iHas, kHas⟩, ⟨FisInt, bisInt, PySem.W.mg_of X G aisInt⟩, ⟨Fbelow, bbelow, PySem.W.mg_of X G abelow⟩, ⟨FisRow, bisRow, PySem.W.mg_of X G aisRow⟩, ⟨Fcheck, bcheck, PySem.W.mg_of X G acheck⟩, ⟨Fafter, bafter, PySem.W.mg_of X G aafter⟩, ⟨Fdraw, bdraw, PySem.W.mg_of X G adraw⟩, ⟨Fstart, bstart, PySem.W.mg_of X G astart⟩, ⟨Fpick, bpick, PySem.W.mg_of X G apick⟩, ⟨Fsame, bsame, PySem.W.mg_of X G asame⟩, ⟨Fcalls, bcalls, PySem.W.mg_of X G acalls⟩, ⟨Fentry, bentry, PySem.W.mg_of X G aentry⟩, ⟨Flines, blines, PySem.W.mg_of X G alines⟩, ⟨Fbelongs, bbelongs, PySem.W.mg_of X G abelongs⟩, ⟨Fled, bled, PySem.W.mg_of X G aled⟩⟩
  exact ⟨PySem.W.fnOf "law" "law" (defArgs sLaw) (defBody sLaw) (defScope sLaw) .none kVLaw dcLaw pmLaw anLaw cdLaw ctLaw, fun s v => .of_eq rfl, fun base _ _ => ok_law (fun_mk (st := sLaw) lLaw cLaw kLaw) PR⟩
theorem walk_ {l : PySem.W.OpenLaw} {q : Program} {loose : List Str} {XP : (Str → Option Value) → Heap → Prop} {YP : World → Heap → Prop} {d : DefRec} {K : Params → PySem.W.Frag} (hn : l.most = some 63) (hdf : d.params.defaults = [])
    (hY : ∀ (w : World) (h : Heap), YP w h → (K w.params).In h)
    (F : ∀ (w : World) (mg : Str → Option Value) (fa : Addr) (h : Heap), (K w.params).In h → h.Ns mainGlobals mg → mg d.name = some (.ref fa) →
      ∃ fd : FuncData, (∀ (s : Shared) (u : Value), BindsTo s fd ⟨[u], []⟩ [("_law_script", u)]) ∧ ∀ base : Heap, (K w.params).In base → base.Ns mainGlobals mg → FnOk l.prog w (K w.params) mg base CX0 7 fa fd ["_law_script"] (spLaw (K w.params))) :
    PySem.W.WalkO q loose XP YP l.row.toRowW d [] (fun f vs => PySem.call f vs) :=
  L2.walk_of (n := 63) (k := 7) (x := "_law_script") (CX := fun _ => CX0) (sp := fun w => spLaw (K w.params)) hn (by decide) hdf ⟨rfl, by decide, by decide⟩ hY F (fun _ _ a ns hl _ hS => ⟨a, ns, rfl, hS, hl, fun _ => rfl⟩) fun _ _ _ _ _ z => z
end PA

open PySem PySem.W PyProof.Rows
set_option maxRecDepth 100000 in
set_option maxHeartbeats 0 in
theorem PySem.Challenge.cw_pairahead_k19_sequences_in_row_sets_holds : PySem.Challenge.rw_pairahead_k19_sequences_in_row_sets.Holds := by
  w_on; o_law; k_head; (case hw => w_witness2)
  k_fill
  refine PA.walk_ (l := PySem.Challenge.rw_pairahead_k19_sequences_in_row_sets) rfl rfl (fun w h Y => PySem.W.kIn_of Y) ?F
  case F =>
    intro w mg fa h KX G hmg
    refine' PA.all_mk KX G hmg ?aC ?pgC ?hdC ?poC ?saC ?kcC ?nCrows ?aCI ?lCI ?cCI ?kCI ?iCI ?mkC ?aHas ?lHas ?cHas ?kHas ?iHas ?aisInt ?lisInt ?cisInt ?kisInt ?abelow ?lbelow ?cbelow ?kbelow ?aisRow ?lisRow ?cisRow ?kisRow ?acheck ?lcheck ?ccheck ?kcheck ?aafter ?lafter ?cafter ?kafter ?adraw ?ldraw ?cdraw ?kdraw ?astart ?lstart ?cstart ?kstart ?apick ?lpick ?cpick ?kpick ?asame ?lsame ?csame ?ksame ?acalls ?lcalls ?ccalls ?kcalls ?aentry ?lentry ?centry ?kentry ?alines ?llines ?clines ?klines ?abelongs ?lbelongs ?cbelongs ?kbelongs ?aled ?lled ?cled ?kled ?aLaw ?lLaw ?cLaw ?kLaw ?aFo ?zisinstance ?zint ?zbool ?zlist ?ztuple ?zlen ?zall ?zzip ?zrange ?zenumerate ?aMost ?iCF ?tCF ?sLF ?sTF
    (case aC => k_is)
    (case pgC => k_is)
    (case hdC => k_is)
    (case poC => k_is)
    (case saC => k_is)
    (case kcC => k_is)
    (case nCrows => k_is)
    (case aCI => k_is)
    (case lCI => k_is)
    (case cCI => k_is)
    (case kCI => k_is)
    (case iCI => k_is)
    (case mkC => k_is)
    (case aHas => k_is)
    (case lHas => k_is)
    (case cHas => k_is)
    (case kHas => k_is)
    (case iHas => k_is)
    (case aisInt => k_is)
    (case lisInt => k_is)
    (case cisInt => k_is)
    (case kisInt => k_is)
    (case abelow => k_is)
    (case lbelow => k_is)
    (case cbelow => k_is)
    (case kbelow => k_is)
    (case aisRow => k_is)
    (case lisRow => k_is)
    (case cisRow => k_is)
    (case kisRow => k_is)
    (case acheck => k_is)
    (case lcheck => k_is)
    (case ccheck => k_is)
    (case kcheck => k_is)
    (case aafter => k_is)
    (case lafter => k_is)
    (case cafter => k_is)
    (case kafter => k_is)
    (case adraw => k_is)
    (case ldraw => k_is)
    (case cdraw => k_is)
    (case kdraw => k_is)
    (case astart => k_is)
    (case lstart => k_is)
    (case cstart => k_is)
    (case kstart => k_is)
    (case apick => k_is)
    (case lpick => k_is)
    (case cpick => k_is)
    (case kpick => k_is)
    (case asame => k_is)
    (case lsame => k_is)
    (case csame => k_is)
    (case ksame => k_is)
    (case acalls => k_is)
    (case lcalls => k_is)
    (case ccalls => k_is)
    (case kcalls => k_is)
    (case aentry => k_is)
    (case lentry => k_is)
    (case centry => k_is)
    (case kentry => k_is)
    (case alines => k_is)
    (case llines => k_is)
    (case clines => k_is)
    (case klines => k_is)
    (case abelongs => k_is)
    (case lbelongs => k_is)
    (case cbelongs => k_is)
    (case kbelongs => k_is)
    (case aled => k_is)
    (case lled => k_is)
    (case cled => k_is)
    (case kled => k_is)
    (case aLaw => k_is)
    (case lLaw => k_is)
    (case cLaw => k_is)
    (case kLaw => k_is)
    (case aFo => k_is)
    (case zisinstance => k_is)
    (case zint => k_is)
    (case zbool => k_is)
    (case zlist => k_is)
    (case ztuple => k_is)
    (case zlen => k_is)
    (case zall => k_is)
    (case zzip => k_is)
    (case zrange => k_is)
    (case zenumerate => k_is)
    (case aMost => k_is)
    (case iCF => k_is)
    (case tCF => k_is)
    (case sLF => k_is)
    (case sTF => k_is)
#print axioms PySem.Challenge.cw_pairahead_k19_sequences_in_row_sets_holds
