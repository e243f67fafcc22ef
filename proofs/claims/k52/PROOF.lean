import PyProof.Rows.All
import Wide.All
import OpenK.AllK
import Wide.FinOn
import HandS.ForMost
import HandS.IsInst
import HandS.Zip
import HandS.Wide
import HandS.Codes
import HandS.Evl
import HandS.Conv
import HandS.Defaults
import HandS.MakeKw
import HandS.Walk
import HandS.TupAny
import HandS.Words
import HandS.WordsList
import PySem.Challenge.RW_pairahead_k52_rivals_lists_and_costs
import HandS.Property
import HandS.More
import HandS.Style
import HandS.TupLe
set_option Elab.async false
set_option linter.all false
set_option maxRecDepth 100000
set_option maxHeartbeats 2000000
/-! what serves every row -/
namespace L2
open PySem PySem.Spec PyProof.Rows
theorem PI.or {X : Cx} {tg l : Expr} {w1 w2 : TI} (h1 : PI X tg l w1) (h2 : PI X tg l w2) : PI X tg l (fun σ H R => w1 σ H R ∨ w2 σ H R) :=
  ⟨fun pins s σ H R I h => h.elim (h1.run pins s σ H R I) (h2.run pins s σ H R I)⟩
/-- a list or a tuple -/
def Sq (K : PySem.W.Frag) (H : Hp) (a : Addr) (xs : List V) : Prop := SqL K H a xs ∨ SqT K H a xs
theorem SqT.up {K : PySem.W.Frag} {H H' : Hp} {a : Addr} {xs : List V} (h : SqT K H a xs) (e : Same H H') : SqT K H' a xs :=
  h.elim (fun h => .inl (h.elim (fun h => .inl (e _ _ h)) fun ⟨o, h⟩ => .inr ⟨o, e _ _ h⟩)) fun h => .inr h
theorem SqL.up {K : PySem.W.Frag} {H H' : Hp} {a : Addr} {xs : List V} (h : SqL K H a xs) (e : Same H H') : SqL K H' a xs :=
  h.elim (fun h => .inl (h.elim (fun h => .inl (e _ _ h)) fun ⟨o, h⟩ => .inr ⟨o, e _ _ h⟩)) fun h => .inr h
theorem Sq.up {K : PySem.W.Frag} {H H' : Hp} {a : Addr} {xs : List V} (h : Sq K H a xs) (e : Same H H') : Sq K H' a xs := h.imp (fun h => SqL.up h e) fun h => SqT.up h e
theorem walk_l {K : PySem.W.Frag} {a : Addr} {xs : List V} : Walk (Itl K a) xs.length (fun H => SqL K H a xs) (YAt xs) :=
  ⟨fun i H hi q => ⟨xs, xs[i], q, by simp [hi]⟩, fun H q => ⟨xs, q, Nat.le_refl _⟩, fun i H x H' hi q y => ⟨y.1, y.2 xs q⟩⟩
theorem walk_t {K : PySem.W.Frag} {a : Addr} {xs : List V} : Walk (Itt K a) xs.length (fun H => SqT K H a xs) (YAt xs) :=
  ⟨fun i H hi q => ⟨xs, xs[i], q, by simp [hi]⟩, fun H q => ⟨xs, q, Nat.le_refl _⟩, fun i H x H' hi q y => ⟨y.1, y.2 xs q⟩⟩
/-- how a value that is a list or a tuple of xs stands, as one of the two -/
inductive Kind where
  | l | t
def Sk (K : PySem.W.Frag) (k : Kind) (H : Hp) (a : Addr) (xs : List V) : Prop := match k with
  | .l => SqL K H a xs
  | .t => SqT K H a xs
theorem Sk.sq {K : PySem.W.Frag} {k : Kind} {H : Hp} {a : Addr} {xs : List V} (h : Sk K k H a xs) : Sq K H a xs := by
  cases k
  · exact .inl h
  · exact .inr h
theorem Sk.up {K : PySem.W.Frag} {k : Kind} {H H' : Hp} {a : Addr} {xs : List V} (h : Sk K k H a xs) (e : Same H H') : Sk K k H' a xs := by
  cases k
  · exact SqL.up h e
  · exact SqT.up h e
theorem Sq.kind {K : PySem.W.Frag} {H : Hp} {a : Addr} {xs : List V} (h : Sq K H a xs) : ∃ k, Sk K k H a xs := h.elim (fun h => ⟨.l, h⟩) fun h => ⟨.t, h⟩
def ItSq (K : PySem.W.Frag) (k : Kind) (a : Addr) : It := match k with
  | .l => Itl K a
  | .t => Itt K a
theorem walk_k {K : PySem.W.Frag} {k : Kind} {a : Addr} {xs : List V} : Walk (ItSq K k a) xs.length (fun H => Sk K k H a xs) (YAt xs) := by
  cases k
  · exact walk_l
  · exact walk_t
/-- a walk over a list or a tuple -/
def iSq (K : PySem.W.Frag) (tl : TE) : TI := fun σ H R => ∃ k : Kind, tl σ H fun x H1 => ∃ a, x = .ref a ∧ (∃ xs, Sk K k H1 a xs) ∧ R (ItSq K k a) H1
theorem pi_sq {X : Cx} {tg l : Expr} {tl : TE} (hl : PE X l tl) : PI X tg l (iSq X.K tl) := by
  refine ⟨fun pins s σ H R I ⟨k, h⟩ => ?_⟩
  cases k
  · exact (pi_list hl).run pins s σ H R I h
  · exact (pi_tup hl).run pins s σ H R I h
/-! ### comprehensions -/
section
variable {J : It} {n : Nat} {G : Hp → Prop} {xs : List V} {g : TG} {tt : TT} {te : TE} {vs : List Nat} {σ : L2.St} {H1 : Hp} {D : Addr} {Qd : Hp → Prop}
theorem new_ {H : Hp} {p : Addr} {o : HO} (hp : H p = none) : Same H (upd H p o) := fun b u e => by
  rw [upd_ne (ne_of_none e hp)]
  exact e
/-- all but D is as it was -/
def But (D : Addr) (H H' : Hp) : Prop := ∀ c o, c ≠ D → H c = some o → H' c = some o
/-- the values are made one after another, the heap of before stays -/
theorem lc_acc (w : Walk J n G (YAt xs)) (hn : n ≤ sizeLine) (hD : H1 D = none) (hG : ∀ H, Same H1 H → G H) (A : Nat → List V → Hp → Prop) (hl : ∀ i acc H, A i acc H → acc.length ≤ i) (A0 : A 0 [] (upd H1 D (.lst [])))
    (hs : ∀ (i : Nat) (x : V) (H : Hp) (acc : List V) (Φ : V → Hp → Prop) (Ψ : Hp → Prop), i < n → xs[i]? = some x → Same H1 H → H D = some (.lst acc) → A i acc H →
      (∀ y H4, Same H H4 → H4 D = some (.lst acc) → (∀ H5, H5 D = some (.lst (acc ++ [y])) → But D H4 H5 → But D H5 H4 → A (i + 1) (acc ++ [y]) H5) → Φ y H4) →
      g x (wipe σ vs) H fun σ2 H2 => wipe σ2 vs = wipe σ vs ∧ tt σ2 H2 fun b H3 => if b = true then te σ2 H3 Φ else Ψ H3)
    (hd : ∀ H acc, Same H1 H → H D = some (.lst acc) → A n acc H → Qd H) :
    ∃ W : Nat → Nat → Hp → Prop, (∃ m, W 0 m (upd H1 D (.lst []))) ∧ ∀ i m H, W i m H →
      (J.stop i H ∧ Qd H) ∨ (J.go i H ∧ ∃ Nx : Hp → Prop, (∀ H', Nx H' → ∃ m', m' < m ∧ W (i + 1) m' H') ∧ ∀ x H', J.yld i H x H' → g x (wipe σ vs) H' fun σ2 H2 => wipe σ2 vs = wipe σ vs ∧ tt σ2 H2 fun b H3 =>
        if b = true then te σ2 H3 fun y H4 => ∃ acc, H4 D = some (.lst acc) ∧ acc.length < sizeLine ∧ Nx (upd H4 D (.lst (acc ++ [y]))) else Nx H3) := by
  refine lc_it w (fun i H => Same H1 H ∧ ∃ acc, H D = some (.lst acc) ∧ A i acc H) ⟨new_ hD, [], upd_same, A0⟩ (fun i H _ p => hG H p.1) (fun i x H H' hi p y => ?_) fun H p => ?_
  · obtain ⟨rfl, hx⟩ := y
    obtain ⟨sm, acc, hd', ha⟩ := p
    refine hs i x _ acc _ _ hi hx sm hd' ha fun y H4 s4 d4 k => ⟨acc, d4, Nat.lt_of_lt_of_le (Nat.lt_of_le_of_lt (hl _ _ _ ha) hi) hn, fun c o e => ?_, acc ++ [y], upd_same, k _ upd_same (fun c o cd e => ?_) fun c o cd e => ?_⟩
    · rw [upd_ne (ne_of_none e hD)]
      exact s4 _ _ (sm _ _ e)
    · rw [upd_ne cd]
      exact e
    · rw [upd_ne cd] at e
      exact e
  · obtain ⟨sm, acc, hd', ha⟩ := p
    exact hd H acc sm hd' ha
/-- values that do not hang on the heap -/
theorem lc_same (w : Walk J n G (YAt xs)) (hn : n ≤ sizeLine) (hD : H1 D = none) (hG : ∀ H, Same H1 H → G H) (ys : List V) (hy : ys.length = n)
    (hs : ∀ (i : Nat) (x y : V) (H : Hp) (Φ : V → Hp → Prop) (Ψ : Hp → Prop), xs[i]? = some x → ys[i]? = some y → Same H1 H → (∀ H4, Same H H4 → Φ y H4) →
      g x (wipe σ vs) H fun σ2 H2 => wipe σ2 vs = wipe σ vs ∧ tt σ2 H2 fun b H3 => if b = true then te σ2 H3 Φ else Ψ H3)
    (hd : ∀ H, Same H1 H → H D = some (.lst ys) → Qd H) :
    ∃ W : Nat → Nat → Hp → Prop, (∃ m, W 0 m (upd H1 D (.lst []))) ∧ ∀ i m H, W i m H →
      (J.stop i H ∧ Qd H) ∨ (J.go i H ∧ ∃ Nx : Hp → Prop, (∀ H', Nx H' → ∃ m', m' < m ∧ W (i + 1) m' H') ∧ ∀ x H', J.yld i H x H' → g x (wipe σ vs) H' fun σ2 H2 => wipe σ2 vs = wipe σ vs ∧ tt σ2 H2 fun b H3 =>
        if b = true then te σ2 H3 fun y H4 => ∃ acc, H4 D = some (.lst acc) ∧ acc.length < sizeLine ∧ Nx (upd H4 D (.lst (acc ++ [y]))) else Nx H3) := by
  refine lc_acc w hn hD hG (fun i acc _ => acc = ys.take i) (fun i acc H e => by rw [e, List.length_take]; omega) (by rw [List.take_zero]) (fun i x H acc Φ Ψ hi hx sm hd' ha k => ?_) fun H acc sm hd' ha => hd H sm ?_
  · have hi' : i < ys.length := by omega
    have ey : ys[i]? = some ys[i] := List.getElem?_eq_getElem hi'
    refine hs i x ys[i] H Φ Ψ hx ey sm fun H4 s4 => k _ H4 s4 (s4 _ _ hd') fun H5 _ _ _ => ?_
    rw [ha, List.take_add_one, ey]
    rfl
  · rw [hd', ha, ← hy, List.take_length]
end
/-! ### x in an instance with the own method -/
section
variable {X : Cx} {CX : CXT} {k : Nat} {C f : Addr} {fd : FuncData} {ps : List Str} {sp : Sp} {E : XK}
theorem op_inOwn (hs : PySem.W.findIn X.K (.ref C) "__contains__" = some (some (.ref f))) (hf : PySem.W.isFn X.K (.ref f) = true) (F : FnOk X.prog X.w X.K X.mg X.base CX k f fd ps sp) (hr : Room k X.A) (hb : Binds X.K fd ps []) (hx : Passes CX X E) :
    OpR X (compareOp .In) (fun x y H Q => ∃ a dx fs, y = .ref a ∧ H a = some (.ins C dx fs) ∧ sp [.ref a, x] H (fun v H' => ∃ b, v = .bl b ∧ Q (.bl b) H') E) := by
  intro pins s σ H x y v u Q I rx ry h
  obtain ⟨a, dx, fs, rfl, ha, q⟩ := h
  cases ry
  obtain ⟨mA, J, _⟩ := ins_get I.hok ha
  obtain ⟨od, J, _⟩ := J.look
  obtain ⟨m, hF⟩ := I.fr
  refine PySem.W.in_K hF I.ok.mod.kin J hs hf ?_
  refine wpAny_mono (run_fn (us := [.ref a, v]) (vs := [.ref a, x]) F hr hb .nil hx I (.cons rfl (.cons rx .nil)) q) (fun w s' z => ?_) fun _ _ z => z
  obtain ⟨v', H', I', rv, b, rfl, q'⟩ := z
  cases rv
  exact wpAny_truthy_bool ⟨.bl b, H', I', rfl, q'⟩
theorem op_notInOwn (hs : PySem.W.findIn X.K (.ref C) "__contains__" = some (some (.ref f))) (hf : PySem.W.isFn X.K (.ref f) = true) (F : FnOk X.prog X.w X.K X.mg X.base CX k f fd ps sp) (hr : Room k X.A) (hb : Binds X.K fd ps []) (hx : Passes CX X E) :
    OpR X (compareOp .NotIn) (fun x y H Q => ∃ a dx fs, y = .ref a ∧ H a = some (.ins C dx fs) ∧ sp [.ref a, x] H (fun v H' => ∃ b, v = .bl b ∧ Q (.bl (!b)) H') E) := by
  intro pins s σ H x y v u Q I rx ry h
  obtain ⟨a, dx, fs, rfl, ha, q⟩ := h
  cases ry
  obtain ⟨mA, J, _⟩ := ins_get I.hok ha
  obtain ⟨od, J, _⟩ := J.look
  obtain ⟨m, hF⟩ := I.fr
  refine PySem.W.notIn_K hF I.ok.mod.kin J hs hf ?_
  refine wpAny_mono (run_fn (us := [.ref a, v]) (vs := [.ref a, x]) F hr hb .nil hx I (.cons rfl (.cons rx .nil)) q) (fun w s' z => ?_) fun _ _ z => z
  obtain ⟨v', H', I', rv, b, rfl, q'⟩ := z
  cases rv
  exact wpAny_truthy_bool ⟨.bl (!b), H', I', rfl, q'⟩
end
end L2

set_option maxHeartbeats 2000000
namespace L2
open PySem PySem.Spec PyProof.Rows RZ
/-! ### zip, slices of lists and tuples -/
theorem walk_zipT {K : PySem.W.Frag} {a b : Addr} {xs ys : List V} {n : Nat} (hn : n = min xs.length ys.length) : Walk (ItzT K a b) n (fun H => SqT K H a xs ∧ SqT K H b ys) (YPair (fun i => xs[i]?) (fun i => ys[i]?)) :=
  ⟨fun i H hi q => ⟨xs, ys, xs[i]'(by omega), ys[i]'(by omega), q.1, q.2, List.getElem?_eq_getElem _, List.getElem?_eq_getElem _⟩,
    fun H q => ⟨xs, ys, q.1, q.2, by omega⟩, fun i H v H' hi q y => by
      obtain ⟨T, x, y', rfl, hT, rfl, f1, f2⟩ := y
      exact ⟨T, x, y', rfl, hT, rfl, f1 xs q.1, f2 ys q.2⟩⟩
def ItZk (K : PySem.W.Frag) (k : Kind) (a b : Addr) : It := match k with
  | .l => Itz K a b
  | .t => ItzT K a b
theorem walk_zk {K : PySem.W.Frag} {k : Kind} {a b : Addr} {xs ys : List V} {n : Nat} (hn : n = min xs.length ys.length) : Walk (ItZk K k a b) n (fun H => Sk K k H a xs ∧ Sk K k H b ys) (YPair (fun i => xs[i]?) (fun i => ys[i]?)) := by
  cases k
  · exact walk_zip hn
  · exact walk_zipT hn
theorem zip_k {K : PySem.W.Frag} {k : Kind} {H : Hp} {a b : Addr} {xs ys : List V} {R : It → Hp → Prop} (ha : Sk K k H a xs) (hb : Sk K k H b ys) (h : R (ItZk K k a b) H) :
    (SqL K H a xs ∧ SqL K H b ys ∧ R (Itz K a b) H) ∨ (SqT K H a xs ∧ SqT K H b ys ∧ R (ItzT K a b) H) := by
  cases k
  · exact .inl ⟨ha, hb, h⟩
  · exact .inr ⟨ha, hb, h⟩
theorem cut_all {xs : List V} {lo hi : Option Int} (h : HT.sIx xs.length 0 lo = 0 ∧ HT.sIx xs.length xs.length hi = xs.length) : cutV xs lo hi = xs := by
  unfold cutV
  rw [h.1, h.2, List.drop_zero, Nat.sub_zero, List.take_length]
theorem sl_k {K : PySem.W.Frag} {k : Kind} {H : Hp} {a : Addr} {xs : List V} {lo hi : Option Int} {Q : V → Hp → Prop} (ha : Sk K k H a xs) (h : ∀ p H', Same H H' → Sk K k H' p (cutV xs lo hi) → Q (.ref p) H') :
    rSlL K (.ref a) lo hi H Q ∨ rSlA K (.ref a) lo hi H Q := by
  cases k
  · exact .inl ⟨a, xs, rfl, ha, fun p hp => h p _ (new_ hp) (SqL.of upd_same)⟩
  · exact .inr ⟨a, xs, rfl, ha, fun w => h a H (fun _ _ e => e) (by rw [cut_all w]; exact ha), fun _ p hp => h p _ (new_ hp) (SqT.of upd_same)⟩
theorem cut_1 (xs : List V) : cutV xs (some (1 : Int)) none = xs.drop 1 := by
  unfold cutV
  rw [show (1 : Int) = ((1 : Nat) : Int) from rfl, HT.sIx_nat, HT.sIx_none]
  rcases Nat.eq_zero_or_pos xs.length with h | h
  · have : xs = [] := List.length_eq_zero_iff.mp h
    subst this
    rfl
  · rw [Nat.min_eq_left h, List.take_of_length_le (by rw [List.length_drop]; exact Nat.le_refl _)]
theorem cut_to (xs : List V) (n : Nat) : cutV xs none (some (n : Int)) = xs.take n := by
  unfold cutV
  rw [HT.sIx_nat, HT.sIx_none, List.drop_zero, Nat.sub_zero]
  rcases Nat.le_total n xs.length with h | h
  · rw [Nat.min_eq_left h]
  · rw [Nat.min_eq_right h, List.take_length, List.take_of_length_le h]
/-! ### small words -/
theorem take_succ' {α : Type} {l : List α} {i : Nat} {x : α} (h : l[i]? = some x) : l.take (i + 1) = l.take i ++ [x] := by
  rw [List.take_add_one, h]
  rfl
theorem ifD_no {p A B : Prop} [Decidable p] (h : ¬ p) (q : B) : if decide p = true then A else B := by
  rw [decide_eq_false h]
  exact iteF q
theorem ifD_yes {p A B : Prop} [Decidable p] (h : p) (q : A) : if decide p = true then A else B := by
  rw [decide_eq_true h]
  exact iteT q
theorem ifD_2 {p A B : Prop} [Decidable p] (h1 : p → A) (h2 : ¬ p → B) : if decide p = true then A else B := by
  by_cases h : p
  · exact ifD_yes h (h1 h)
  · exact ifD_no h (h2 h)
theorem ifB_2 {b : Bool} {A B : Prop} (h1 : b = true → A) (h2 : b = false → B) : if b = true then A else B := by
  cases b
  · exact iteF (h2 rfl)
  · exact iteT (h1 rfl)
theorem Same.none {H H' : Hp} {x : Addr} (s : Same H H') (h : H' x = Option.none) : H x = Option.none := by
  cases e : H x with
  | none => rfl
  | some o => rw [s _ _ e] at h; cases h
theorem all_true (n : Nat) : (List.replicate n true).all id = true := by
  rw [List.all_eq_true]
  intro x hx
  rw [(List.mem_replicate.mp hx).2]
  rfl
theorem boot_isi : bootBuiltins "isinstance" = some (.builtin "isinstance") := by decide +kernel
theorem boot_int' : bootBuiltins "int" = some (.type "int") := by decide +kernel
theorem boot_bool' : bootBuiltins "bool" = some (.type "bool") := by decide +kernel
theorem boot_tuple' : bootBuiltins "tuple" = some (.type "tuple") := by decide +kernel
theorem boot_list' : bootBuiltins "list" = some (.type "list") := by decide +kernel
theorem boot_all' : bootBuiltins "all" = some (.builtin "all") := by decide +kernel
structure Df (K : PySem.W.Frag) (mg : Str → Option Value) (x : Str) (st : Stmt) (f : Addr) (fd : FuncData) (ps : List Str) : Prop where
  F : Fun K x x st f fd
  B : Binds K fd ps []
  M : mg x = some (.ref f)
def rTupK (K : PySem.W.Frag) : List V → Hp → (V → Hp → Prop) → Prop := fun xs H Q => ∃ p ys, xs = [.ref p] ∧ ((SqL K H p ys ∧ ∀ l, H l = none → Q (.ref l) (upd H l (.tup ys))) ∨ (SqT K H p ys ∧ Q (.ref p) H))
theorem call_tupleK {X : Cx} {K : PySem.W.Frag} (h : X.K = K) : CallR X (.type "tuple") (rTupK K) := h ▸ call_tuple_of
def rLstK (K : PySem.W.Frag) : List V → Hp → (V → Hp → Prop) → Prop := fun xs H Q => ∃ p ys, xs = [.ref p] ∧ (SqL K H p ys ∨ SqT K H p ys) ∧ ∀ l, H l = none → Q (.ref l) (upd H l (.lst ys))
theorem call_listK {X : Cx} {K : PySem.W.Frag} (h : X.K = K) : CallR X (.type "list") (rLstK K) := h ▸ call_list_of
def rLenK (K : PySem.W.Frag) : List V → Hp → (V → Hp → Prop) → Prop := fun xs H Q => ∃ p ys, xs = [.ref p] ∧ (SqL K H p ys ∨ SqT K H p ys) ∧ Q (.int ys.length) H
theorem call_lenK {X : Cx} {K : PySem.W.Frag} (h : X.K = K) : CallR X (.builtin "len") (rLenK K) := h ▸ call_len_seq
def rIxTK (K : PySem.W.Frag) : R2 := fun x y H Q => ∃ p xs i v, x = .ref p ∧ y = .int i ∧ SqT K H p xs ∧ atI xs i = some v ∧ Q v H
theorem ix_tupK {X : Cx} {K : PySem.W.Frag} (h : X.K = K) : IxR X (rIxTK K) := h ▸ ix_tup
/-! ### what stands at each place of a list of references -/
def Ea {α : Type} (H : Hp) (P : Hp → Addr → α → Prop) (xs : List V) (ds : List α) : Prop := xs.length = ds.length ∧ ∀ (i : Nat) (x : V) (r : α), xs[i]? = some x → ds[i]? = some r → ∃ c, x = .ref c ∧ P H c r
section
variable {α : Type} {H H' : Hp} {P P' : Hp → Addr → α → Prop} {xs ys : List V} {ds es : List α} {c : Addr} {r : α}
theorem Ea.imp (e : Ea H P xs ds) (f : ∀ c r, P H c r → P' H' c r) : Ea H' P' xs ds := ⟨e.1, fun i x r h1 h2 => let ⟨c, hx, q⟩ := e.2 i x r h1 h2; ⟨c, hx, f c r q⟩⟩
theorem Ea.nil : Ea H P [] [] := ⟨rfl, fun i x r h _ => by simp at h⟩
theorem Ea.append (e : Ea H P xs ds) (e' : Ea H P ys es) : Ea H P (xs ++ ys) (ds ++ es) := by
  refine ⟨by rw [List.length_append, List.length_append, e.1, e'.1], fun i x r h1 h2 => ?_⟩
  rcases Nat.lt_or_ge i xs.length with hi | hi
  · rw [List.getElem?_append_left hi] at h1
    rw [List.getElem?_append_left (by rw [← e.1]; exact hi)] at h2
    exact e.2 i x r h1 h2
  · rw [List.getElem?_append_right hi] at h1
    rw [List.getElem?_append_right (by rw [← e.1]; exact hi), ← e.1] at h2
    exact e'.2 _ x r h1 h2
theorem Ea.one (q : P H c r) : Ea H P [.ref c] [r] := by
  refine ⟨rfl, fun i x r' h1 h2 => ?_⟩
  match i, h1, h2 with
  | 0, h1, h2 =>
    cases h1
    cases h2
    exact ⟨c, rfl, q⟩
  | (j + 1), h1, _ => simp at h1
theorem Ea.push (e : Ea H P xs ds) (q : P H c r) : Ea H P (xs ++ [.ref c]) (ds ++ [r]) := e.append (.one q)
theorem Ea.get (e : Ea H P xs ds) {i : Nat} {r : α} (h : ds[i]? = some r) : ∃ c, xs[i]? = some (.ref c) ∧ P H c r := by
  have hi : i < xs.length := by rw [e.1]; exact (List.getElem?_eq_some_iff.mp h).1
  obtain ⟨c, hc, q⟩ := e.2 i _ r (List.getElem?_eq_getElem hi) h
  exact ⟨c, by rw [List.getElem?_eq_getElem hi, hc], q⟩
theorem Ea.at_ (e : Ea H P xs ds) {i : Nat} {x : V} (h : xs[i]? = some x) : ∃ c r, x = .ref c ∧ ds[i]? = some r ∧ P H c r := by
  have hi : i < ds.length := by rw [← e.1]; exact (List.getElem?_eq_some_iff.mp h).1
  obtain ⟨c, hc, q⟩ := e.2 i _ _ h (List.getElem?_eq_getElem hi)
  exact ⟨c, _, hc, List.getElem?_eq_getElem hi, q⟩
end
/-- a tuple at c of what r is written as -/
def TupOf {α : Type} (f : α → List V) (H : Hp) (c : Addr) (r : α) : Prop := H c = some (.tup (f r))
section
variable {α : Type} {f : α → List V} {H H' : Hp} {xs : List V} {ds : List α} {c p C dx : Addr} {r : α}
theorem TupOf.lst {ys zs : List V} (q : TupOf f H c r) (hD : H p = some (.lst ys)) : TupOf f (upd H p (.lst zs)) c r := by
  unfold TupOf
  rw [upd_ne (ne_of (H := H) q hD (by intro z; cases z))]
  exact q
theorem TupOf.ins {fs : List (Str × V)} {o : HO} (q : TupOf f H c r) (hp : H p = some (.ins C dx fs)) : TupOf f (upd H p o) c r := by
  unfold TupOf
  rw [upd_ne (ne_of (H := H) q hp (by intro z; cases z))]
  exact q
theorem TupOf.but {ys : List V} (q : TupOf f H c r) (hD : H p = some (.lst ys)) (b : But p H H') : TupOf f H' c r := b _ _ (ne_of (H := H) q hD (by intro z; cases z)) q
theorem Ea.same (e : Ea H (TupOf f) xs ds) (s : Same H H') : Ea H' (TupOf f) xs ds := e.imp fun c r q => s _ _ q
end
end L2

set_option maxHeartbeats 2000000
namespace PA
/-- below 2 ^ n in size -/
abbrev Sm (n : Nat) (x : Int) : Prop := x.natAbs < 2 ^ n
theorem Sm.mono {n m : Nat} {x : Int} (h : Sm n x) (hn : n ≤ m) : Sm m x := Nat.lt_of_lt_of_le h (Nat.pow_le_pow_right (by decide) hn)
theorem Sm.mul {n m k : Nat} {x y : Int} (hx : Sm n x) (hy : Sm m y) (h : n + m ≤ k) : Sm k (x * y) := by
  refine Sm.mono (n := n + m) ?_ h
  unfold Sm
  rw [Int.natAbs_mul, Nat.pow_add]
  exact Nat.mul_lt_mul'' hx hy
theorem Sm.add {n k : Nat} {x y : Int} (hx : Sm n x) (hy : Sm n y) (h : n + 1 ≤ k) : Sm k (x + y) := by
  refine Sm.mono (n := n + 1) ?_ h
  unfold Sm at *
  rw [Nat.pow_succ]
  omega
theorem Sm.sub {n k : Nat} {x y : Int} (hx : Sm n x) (hy : Sm n y) (h : n + 1 ≤ k) : Sm k (x - y) := by
  refine Sm.mono (n := n + 1) ?_ h
  unfold Sm at *
  rw [Nat.pow_succ]
  omega
theorem Sm.neg {n : Nat} {x : Int} (hx : Sm n x) : Sm n (-x) := by
  unfold Sm at *
  rw [Int.natAbs_neg]
  exact hx
theorem Sm.le {n : Nat} {x y : Int} (hx : Sm n x) (h : y.natAbs ≤ x.natAbs) : Sm n y := Nat.lt_of_le_of_lt h hx
theorem Sm.one {n : Nat} (h : 0 < n) : Sm n 1 := by
  show (1 : Int).natAbs < 2 ^ n
  exact Nat.one_lt_two_pow (by omega)

/-- the divisor that a Ratio shortens by -/
def shr (t b : Int) : Int := if b < 0 then -((Nat.gcd t.natAbs b.natAbs : Nat) : Int) else ((Nat.gcd t.natAbs b.natAbs : Nat) : Int)
/-- lowest terms -/
structure Low (T B : Int) : Prop where
  pos : 0 < B
  cop : Nat.gcd T.natAbs B.natAbs = 1
theorem low_one (i : Int) : Low i 1 := ⟨by decide, Nat.gcd_one_right _⟩
theorem gcd_key {a b c d g : Nat} (h1 : a = c * g) (h2 : b = d * g) : Nat.gcd a b = Nat.gcd c d * g := by
  rw [h1, h2]
  exact Nat.gcd_mul_right _ _ _
theorem rat_mk {t b : Int} (hb : b ≠ 0) : shr t b ≠ 0 ∧ (shr t b).natAbs ≤ b.natAbs ∧ Low (t.fdiv (shr t b)) (b.fdiv (shr t b)) ∧ (t.fdiv (shr t b)) * b = t * (b.fdiv (shr t b)) ∧
    (t.fdiv (shr t b)).natAbs ≤ t.natAbs ∧ (b.fdiv (shr t b)).natAbs ≤ b.natAbs := by
  have hg : 0 < Nat.gcd t.natAbs b.natAbs := Nat.gcd_pos_of_pos_right _ (Int.natAbs_pos.mpr hb)
  have hgb : Nat.gcd t.natAbs b.natAbs ≤ b.natAbs := Nat.gcd_le_right _ (Int.natAbs_pos.mpr hb)
  have hsn : (shr t b).natAbs = Nat.gcd t.natAbs b.natAbs := by
    unfold shr
    split
    · rw [Int.natAbs_neg, Int.natAbs_natCast]
    · rw [Int.natAbs_natCast]
  have hs0 : shr t b ≠ 0 := by
    intro z
    rw [z] at hsn
    simp at hsn
    omega
  have dv : ∀ y : Int, (Nat.gcd t.natAbs b.natAbs) ∣ y.natAbs → ∃ q : Int, y = q * shr t b := by
    intro y hy
    have h1 : ((Nat.gcd t.natAbs b.natAbs : Nat) : Int) ∣ y := Int.ofNat_dvd_left.mpr hy
    obtain ⟨q, hq⟩ := h1
    unfold shr
    split
    · exact ⟨-q, by rw [Int.neg_mul_neg, Int.mul_comm]; exact hq⟩
    · exact ⟨q, by rw [Int.mul_comm]; exact hq⟩
  obtain ⟨T, hT⟩ := dv t (Nat.gcd_dvd_left _ _)
  obtain ⟨B, hB⟩ := dv b (Nat.gcd_dvd_right _ _)
  have eT : t.fdiv (shr t b) = T := by
    conv => lhs; lhs; rw [hT]
    exact Int.mul_fdiv_cancel _ hs0
  have eB : b.fdiv (shr t b) = B := by
    conv => lhs; lhs; rw [hB]
    exact Int.mul_fdiv_cancel _ hs0
  rw [eT, eB]
  have nT : t.natAbs = T.natAbs * Nat.gcd t.natAbs b.natAbs := by
    conv => lhs; rw [hT, Int.natAbs_mul, hsn]
  have nB : b.natAbs = B.natAbs * Nat.gcd t.natAbs b.natAbs := by
    conv => lhs; rw [hB, Int.natAbs_mul, hsn]
  refine ⟨hs0, by rw [hsn]; exact hgb, ⟨?_, ?_⟩, ?_, ?_, ?_⟩
  · have hB0 : B ≠ 0 := by
      intro z
      rw [z, Int.zero_mul] at hB
      exact hb hB
    rcases Int.lt_or_gt_of_ne hB0 with h | h
    · exfalso
      unfold shr at hB
      split at hB
      · rename_i hneg
        have : 0 < B * -((Nat.gcd t.natAbs b.natAbs : Nat) : Int) := Int.mul_pos_of_neg_of_neg h (by omega)
        omega
      · rename_i hneg
        have : B * ((Nat.gcd t.natAbs b.natAbs : Nat) : Int) < 0 := Int.mul_neg_of_neg_of_pos h (by omega)
        omega
    · exact h
  · have e : Nat.gcd t.natAbs b.natAbs = Nat.gcd T.natAbs B.natAbs * Nat.gcd t.natAbs b.natAbs := by
      exact gcd_key nT nB
    have e2 : 1 * Nat.gcd t.natAbs b.natAbs = Nat.gcd T.natAbs B.natAbs * Nat.gcd t.natAbs b.natAbs := by rw [Nat.one_mul]; exact e
    exact (Nat.eq_of_mul_eq_mul_right hg e2).symm
  · calc T * b = T * (B * shr t b) := by rw [← hB]
      _ = (T * shr t b) * B := by rw [Int.mul_comm B, ← Int.mul_assoc]
      _ = t * B := by rw [← hT]
  · rw [nT]; exact Nat.le_mul_of_pos_right _ hg
  · rw [nB]; exact Nat.le_mul_of_pos_right _ hg
/-- a fraction has one lowest form -/
theorem Low.uniq {T B T' B' : Int} (h : Low T B) (h' : Low T' B') (e : T * B' = T' * B) : T = T' ∧ B = B' := by
  have n : T.natAbs * B'.natAbs = T'.natAbs * B.natAbs := by rw [← Int.natAbs_mul, ← Int.natAbs_mul, e]
  have d1 : B.natAbs ∣ B'.natAbs := by
    have : B.natAbs ∣ T.natAbs * B'.natAbs := ⟨T'.natAbs, by rw [n, Nat.mul_comm]⟩
    exact (Nat.Coprime.symm h.cop).dvd_of_dvd_mul_left this
  have d2 : B'.natAbs ∣ B.natAbs := by
    have : B'.natAbs ∣ T'.natAbs * B.natAbs := ⟨T.natAbs, by rw [← n, Nat.mul_comm]⟩
    exact (Nat.Coprime.symm h'.cop).dvd_of_dvd_mul_left this
  have eB : B = B' := by
    have := Nat.dvd_antisymm d1 d2
    have p1 := h.pos
    have p2 := h'.pos
    omega
  subst eB
  have hB : B ≠ 0 := by have := h.pos; omega
  exact ⟨Int.eq_of_mul_eq_mul_right hB e, rfl⟩
theorem Low.neg {T B : Int} (h : Low T B) : Low (-T) B := ⟨h.pos, by rw [Int.natAbs_neg]; exact h.cop⟩
/-- a = n / d and b = n / d -/
theorem cross {a b n d x y : Int} (hb : b ≠ 0) (h1 : a * d = n * b) (h2 : n * y = x * d) (hd : d ≠ 0) : a * y = x * b := by
  have : (a * y) * d = (x * b) * d := by
    calc (a * y) * d = (a * d) * y := by rw [Int.mul_assoc, Int.mul_comm y, ← Int.mul_assoc]
      _ = (n * b) * y := by rw [h1]
      _ = (n * y) * b := by rw [Int.mul_assoc, Int.mul_comm b, ← Int.mul_assoc]
      _ = (x * d) * b := by rw [h2]
      _ = (x * b) * d := by rw [Int.mul_assoc, Int.mul_comm d, ← Int.mul_assoc]
  exact Int.eq_of_mul_eq_mul_right hd this
end PA

set_option maxHeartbeats 4000000
namespace L2
open PySem PySem.Spec PyProof.Rows
/-! len(x) by the own method -/
section
variable {X : Cx} {CX : CXT} {k : Nat} {C f : Addr} {fd : FuncData} {ps : List Str} {sp : Sp} {E : XK}
theorem call_lenOwn (hs : PySem.W.findIn X.K (.ref C) "__len__" = some (some (.ref f))) (hf : PySem.W.isFn X.K (.ref f) = true) (F : FnOk X.prog X.w X.K X.mg X.base CX k f fd ps sp) (hr : Room (k + 1) X.A) (hb : Binds X.K fd ps []) (hx : Passes CX X E) :
    CallR X (.builtin "len") (fun xs H Q => ∃ a dx fs, xs = [.ref a] ∧ H a = some (.ins C dx fs) ∧ sp [.ref a] H (fun v H' => ∃ n : Nat, v = .int n ∧ n ≤ 1000 ∧ Q (.int n) H') E) := by
  intro pins s σ H xs us Q I r h
  obtain ⟨a, dx, fs, rfl, ha, q⟩ := h
  obtain ⟨u, rfl, ru⟩ := vals1 r
  cases ru
  obtain ⟨mA, J, _⟩ := ins_get I.hok ha
  obtain ⟨od, J, _⟩ := J.look
  obtain ⟨m, hF⟩ := I.fr
  refine PySem.W.len_K hF I.ok.mod.kin J hs hf ?_
  have hl := F.len _ _ _ _ q
  have r2 : Vals [V.ref a] [Value.ref a] := .cons rfl .nil
  refine wpAny_call (codeAny_mono (F.run X.A.in1 X.stack s H ⟨[.ref a], []⟩ [.ref a] [.ref a] _ E hr.in1 I.env0.in1 (by
    have := hb s [.ref a] I.kIn (by simpa using hl)
    simpa using this) r2 q) fun r s' hq => ?_)
  cases r with
  | error e => exact hx pins σ H s e s' I hq
  | ok fl =>
    cases fl with
    | ret w =>
      obtain ⟨v, H', I', rv, n, rfl, hn, q'⟩ := I.after hq
      obtain ⟨t, rfl⟩ := rv
      exact ⟨⟨by omega, by omega⟩, .int n, H', I'.tok _, ⟨_, rfl⟩, q'⟩
    | next => exact False.elim hq
    | brk => exact False.elim hq
    | cont => exact False.elim hq
end
end L2
namespace PA
open PySem L2 RZ
open C8 (pss_cut tCut)
def top (i : Nat) : Stmt := PySem.Challenge.pw_pairahead_k52_rivals_lists_and_costs.main.body.getD i (.Pass ⟨0, 0, 0, 0⟩)
abbrev sInit : Stmt := inClass (top 6) 0
abbrev sOrder : Stmt := inClass (top 6) 1
abbrev sHas : Stmt := inClass (top 6) 2
abbrev sLen : Stmt := inClass (top 6) 3
abbrev sCall : Stmt := inClass (top 6) 4
abbrev sExch : Stmt := inClass (top 6) 5
abbrev sPut : Stmt := inClass (top 6) 6
abbrev sDrop : Stmt := inClass (top 6) 7
abbrev sPlace : Stmt := inClass (top 6) 8
abbrev sDraw : Stmt := top 8
abbrev sStart : Stmt := top 9
abbrev sPick : Stmt := top 10
abbrev sMixed : Stmt := top 11
abbrev sSame : Stmt := top 12
abbrev sNames : Stmt := top 13
abbrev sLaw : Stmt := top 14
structure Txt (K : PySem.W.Frag) (mg : Str → Option Value) : Prop where
  isi : mg "isinstance" = none
  int_ : mg "int" = none
  bool_ : mg "bool" = none
  list_ : mg "list" = none
  tup_ : mg "tuple" = none
  len_ : mg "len" = none
  all_ : mg "all" = none
  zip_ : mg "zip" = none
  range_ : mg "range" = none
end PA

set_option maxHeartbeats 4000000
namespace PA
open PySem L2 RZ
open C8 (pss_cut tCut)
theorem atI_nat {α : Type} {xs : List α} {i : Nat} {x : α} (h : xs[i]? = some x) : atI xs (i : Int) = some x := by
  unfold atI
  rw [Evl.ixN_nat (List.getElem?_eq_some_iff.mp h).1]
  exact h
/-! ### data of ints -/
theorem ints_lay : ∀ ns : List Int, PyData.canLayAll0 (ns.map PyData.int) = true
  | [] => by simp [PyData.canLayAll0]
  | z :: zs => by simp [PyData.canLayAll0, PyData.canLay0, ints_lay zs]
theorem ints_depth : ∀ ns : List Int, PyData.depthAll (ns.map PyData.int) ≤ 2
  | [] => by simp [PyData.depthAll]
  | z :: zs => by
    have h1 := ints_depth zs
    simp only [List.map_cons, PyData.depthAll, PyData.depth]
    omega
theorem ints_shaped (ns : List Int) : SeqAt.shaped (.list (ns.map PyData.int)) = true := by
  have h1 := ints_depth ns
  have h2 : PyData.depth (.list (ns.map PyData.int)) ≤ 64 := by
    simp only [PyData.depth]
    omega
  show (PyData.canLay0 (.list (ns.map PyData.int)) && decide (PyData.depth (.list (ns.map PyData.int)) ≤ 64)) = true
  rw [Bool.and_eq_true]
  exact ⟨by simp only [PyData.canLay0]; exact ints_lay ns, decide_eq_true h2⟩
theorem dp_ints {K : PySem.W.Frag} {H : Hp} : ∀ ns : List Int, DpAll K H (ns.map V.int) (ns.map PyData.int)
  | [] => .nil
  | z :: zs => .cons (.int z) (dp_ints zs)
theorem ints_nil (ns : List Int) : PyData.eqv (.list (ns.map PyData.int)) (.list []) = ns.isEmpty := by
  cases ns with
  | nil => simp [PyData.eqv, PyData.eqvAll]
  | cons z zs => simp [PyData.eqv, PyData.eqvAll]
/-! ### the stream of draws: the list at a, the numbers left at l, n draws made -/
def StreamAt (H : Hp) (a l : Addr) (n : Nat) : Prop := a ≠ l ∧ ∃ (ns : List Int) (x z : Int), H a = some (.lst [.ref l, .int x, .int (n : Int), .int z]) ∧ H l = some (.lst (ns.map V.int)) ∧ ns.length ≤ 63 ∧ 0 ≤ x ∧ 0 ≤ z ∧ z < 2147483647
/-- all but the stream is kept -/
def Keep (a l : Addr) (H H' : Hp) : Prop := ∀ c o, c ≠ a → c ≠ l → H c = some o → H' c = some o
theorem Keep.refl (a l : Addr) (H : Hp) : Keep a l H H := fun _ _ _ _ h => h
theorem Keep.trans {a l : Addr} {H H1 H2 : Hp} (h : Keep a l H H1) (h' : Keep a l H1 H2) : Keep a l H H2 := fun c o x y e => h' c o x y (h c o x y e)
theorem Keep.of {a l : Addr} {H H' : Hp} (h : Same H H') : Keep a l H H' := fun c o _ _ e => h c o e
theorem StreamAt.same {H H' : Hp} {a l : Addr} {n : Nat} (h : StreamAt H a l n) (s : Same H H') : StreamAt H' a l n := by
  obtain ⟨ne, ns, x, z, h1, h2, h3⟩ := h
  exact ⟨ne, ns, x, z, s _ _ h1, s _ _ h2, h3⟩
def spDraw : Sp := fun vs H Q _ => ∃ (a l : Addr) (n : Nat) (many : Int), vs = [.ref a, .int many] ∧ StreamAt H a l n ∧ n ≤ 100000 ∧ 0 < many ∧ Sm 9000 many ∧
  ∀ (r : Int) (H' : Hp), 0 ≤ r → r < many → StreamAt H' a l (n + 1) → Keep a l H H' → Q (.int r) H'
section
variable {P : Program} {w : World} {K : PySem.W.Frag} {mg : Str → Option Value} {base : Heap} {C : Addr}
theorem scDraw : FnScope ["_law_stream", "_law_many", "_law_digit", "_law_mixed_here"] ["_law_stream", "_law_many"] (defScope sDraw) := ⟨rfl, rfl, rfl, by decide +kernel, rfl, by decide +kernel, by decide +kernel⟩
theorem ok_draw {f : Addr} {fd : FuncData} (F : Fun K "_law_draw" "_law_draw" sDraw f fd) (T : Txt K mg) : FnOk P w K mg base CX0 1 f fd ["_law_stream", "_law_many"] spDraw := by
  refine F.ok scDraw (fun vs H Q E h => ?_) (fun cdv A outer s H vs Q E hr h => ?_)
  · obtain ⟨a, l, n, many, rfl, _⟩ := h
    rfl
  · obtain ⟨a, l, n, many, rfl, ⟨ne, ns, x, z, h1, h2, hl, hx, hz0, hz1⟩, hn, hm, hms, k⟩ := h
    have hW : ∀ j : Int, CDivW j many := fun j => ⟨hm, Nat.lt_of_lt_of_le (PySem.Flt.log2_lt_of (by decide) hms) (Nat.le_refl _)⟩
    refine ⟨_, pss_cut (ps_asg (pe_op op_add (pe_ix ix_list (pv 0) pe_int (fun _ _ => rfl)) pe_int) (pg_sub (pv 0) pe_int set_list))
      (pss_cut (ps_if (PW.pt (pw_and (pt_cmpR op_eq (pe_ix ix_list (pv 0) pe_int (fun _ _ => rfl)) pe_int (nomark _)) (pw_and1 (pt_cmpR (op_neD hr.units) (pe_ix ix_list (pv 0) pe_int (fun _ _ => rfl)) (pe_lst pa_nil) (nomark _)))))
        (pss_cons (ps_asg (pe_bm PySem.F.plainAttrs_list PySem.F.slot_list_pop PySem.F.type_list_pop mt_popAt (pe_ix ix_list (pv 0) pe_int (fun _ _ => rfl)) (pa_cons pe_int pa_nil)) (pg_sub (pv 0) pe_int set_list))
          (pss_one (ps_if (pt_cmpR op_lt (pe_ix ix_list (pv 0) pe_int (fun _ _ => rfl)) (pe_op op_pow pe_int pe_int) (nomark _))
            (pss_cons (ps_asg (pe_op op_mod (pe_callTy call_int1 (by rfl) T.int_ boot_int' (pa_cons (pe_op op_add (pe_op op_add (pe_op op_mul (pe_ix ix_list (pv 0) pe_int (fun _ _ => rfl)) pe_int) (pe_ix ix_list (pv 0) pe_int (fun _ _ => rfl))) pe_int) pa_nil)) pe_int) (pg_sub (pv 0) pe_int set_list))
              (pss_one (ps_asg pe_int (pg_sub (pv 0) pe_int set_list)))) pss_nil))) pss_nil)
      (pss_cons (ps_if (pt_cmpR op_gt (pe_ix ix_list (pv 0) pe_int (fun _ _ => rfl)) pe_int (nomark _))
        (pss_cons (ps_set (i := 2) scDraw.nd rfl (Or.inl rfl) (pe_op op_mod (pe_callTy call_int1 (by rfl) T.int_ boot_int' (pa_cons (pe_ix ix_list (pv 0) pe_int (fun _ _ => rfl)) pa_nil)) (pv 1)))
          (pss_cons (ps_asg (pe_op op_fdivW (pe_ix ix_list (pv 0) pe_int (fun _ _ => rfl)) (pv 1)) (pg_sub (pv 0) pe_int set_list))
            (pss_one (ps_ret (pv 2))))) pss_nil)
      (pss_cons (ps_set (i := 3) scDraw.nd rfl (Or.inl rfl) (pe_op op_mod (pe_op op_pow (pe_op op_add (pe_op op_add (pe_ix ix_list (pv 0) pe_int (fun _ _ => rfl)) (pe_op op_mul pe_int (pe_ix ix_list (pv 0) pe_int (fun _ _ => rfl)))) pe_int) pe_int) pe_int))
      (pss_one (ps_ret (pe_op op_mod (pe_op op_mod (pe_op op_pow (pe_op op_add (pe_op op_add (pe_op op_mul (pv 3) pe_int) (pe_op op_mul (pe_op op_mul pe_int (pe_ix ix_list (pv 0) pe_int (fun _ _ => rfl))) (pe_ix ix_list (pv 0) pe_int (fun _ _ => rfl)))) pe_int) pe_int) pe_int) (pv 1))))))), ?_⟩
    refine ⟨fun σ' H' => σ' = [some (V.ref a), some (V.int many), none, none] ∧ H' = upd H a (.lst [.ref l, .int x, .int ((n : Int) + 1), .int z]), ?_, ?_⟩
    · exact ⟨_, rfl, a, _, 2, _, rfl, rfl, SqL.of h1, rfl, _, _, rfl, rfl, _, rfl, a, _, 2, 2, rfl, rfl, h1, rfl, rfl, rfl⟩
    rintro _ _ ⟨rfl, rfl⟩
    refine ⟨fun σ' H' => σ' = [some (V.ref a), some (V.int many), none, none] ∧ ∃ (ns' : List Int) (x' z' : Int), H' a = some (.lst [.ref l, .int x', .int ((n : Int) + 1), .int z']) ∧ H' l = some (.lst (ns'.map V.int)) ∧ ns'.length ≤ 63 ∧ 0 ≤ x' ∧ 0 ≤ z' ∧ z' < 2147483647 ∧ Keep a l H H', ?_, ?_⟩
    · have kp1 : Keep a l H (upd H a (.lst [.ref l, .int x, .int ((n : Int) + 1), .int z])) := fun c o ca _ e => by rw [upd_ne ca]; exact e
      have hl1 : (upd H a (.lst [.ref l, .int x, .int ((n : Int) + 1), .int z])) l = some (.lst (ns.map V.int)) := by rw [upd_ne ne.symm]; exact h2
      refine ⟨_, rfl, a, _, 1, _, rfl, rfl, SqL.of upd_same, rfl, rfl, _, rfl, ifD_2 (fun hx0 => ?_) (fun _ => iteF ?_)⟩
      · refine ⟨_, rfl, a, _, 0, _, rfl, rfl, SqL.of upd_same, rfl, Nat.zero_le _, fun p hp => ?_⟩
        have npa : a ≠ p := fun e => by rw [← e, upd_same] at hp; cases hp
        have npl : l ≠ p := ne_of_none hl1 hp
        have kp2 : Keep a l H (upd (upd H a (.lst [.ref l, .int x, .int ((n : Int) + 1), .int z])) p (.lst [])) := fun c o ca cl e => by
          rw [upd_ne (ne_of_none (kp1 c o ca cl e) hp)]; exact kp1 c o ca cl e
        refine ⟨.list (ns.map PyData.int), .list [], .lst (SqL.of (by rw [upd_ne npl]; exact hl1)) (dp_ints ns), .lst (SqL.of upd_same) .nil, ints_shaped ns, ints_shaped [], _, rfl, ?_⟩
        rw [ints_nil]
        cases ns with
        | nil => exact iteF ⟨rfl, [], x, z, by rw [upd_ne npa, upd_same], by rw [upd_ne npl]; exact hl1, Nat.zero_le _, hx, hz0, hz1, kp2⟩
        | cons y ys =>
          refine iteT ?_
          have ga : (upd (upd H a (.lst [.ref l, .int x, .int ((n : Int) + 1), .int z])) p (.lst [])) a = some (.lst [.ref l, .int x, .int ((n : Int) + 1), .int z]) := by rw [upd_ne npa, upd_same]
          have gl : (upd (upd H a (.lst [.ref l, .int x, .int ((n : Int) + 1), .int z])) p (.lst [])) l = some (.lst ((y :: ys).map V.int)) := by rw [upd_ne npl]; exact hl1
          generalize (upd (upd H a (.lst [.ref l, .int x, .int ((n : Int) + 1), .int z])) p (.lst [])) = Hb at ga gl kp2
          refine ⟨_, rfl, a, _, 0, _, rfl, rfl, SqL.of ga, rfl, .inl ⟨rfl, _, SqL.of gl⟩, l, _, 0, 0, .int y, rfl, rfl, gl, by decide, by decide, (ixN_seq (Evl.ixN_nat (j := 0) (by simp))).1, rfl, ?_⟩
          have ga2 : (upd Hb l (.lst (((y :: ys).map V.int).eraseIdx 0))) a = some (.lst [.ref l, .int x, .int ((n : Int) + 1), .int z]) := by rw [upd_ne ne]; exact ga
          refine ⟨_, rfl, a, _, 1, 1, rfl, rfl, ga2, rfl, ?_⟩
          have kp3 : ∀ o, Keep a l H (upd (upd Hb l (.lst (((y :: ys).map V.int).eraseIdx 0))) a o) := fun o c u ca cl e => by rw [upd_ne ca, upd_ne cl]; exact kp2 c u ca cl e
          have gl3 : ∀ o, (upd (upd Hb l (.lst (((y :: ys).map V.int).eraseIdx 0))) a o) l = some (.lst (ys.map V.int)) := fun o => by rw [upd_ne ne.symm, upd_same]; rfl
          have hys : ys.length ≤ 63 := Nat.le_trans (Nat.le_succ _) hl
          refine ⟨_, rfl, a, _, 1, _, rfl, rfl, SqL.of upd_same, rfl, 10, 18, rfl, rfl, (by show CPow 10 18; unfold CPow; decide), _, _, rfl, rfl, _, rfl, ifD_2 (fun hy => ?_) (fun hy => ?_)⟩
          · refine ⟨_, rfl, a, _, 3, _, rfl, rfl, SqL.of upd_same, rfl, _, _, rfl, rfl, .inr (by decide), _, rfl, a, _, 1, _, rfl, rfl, SqL.of upd_same, rfl, _, _, rfl, rfl, _, _, rfl, rfl, .inl ⟨_, rfl, _, _, rfl, rfl, (by show (0 : Int) < 2147483647; decide), _, rfl, a, _, 3, 3, rfl, rfl, upd_same, rfl, ?_⟩⟩
            refine ⟨_, rfl, a, _, 1, 1, rfl, rfl, upd_same, rfl, ?_⟩
            rw [upd_upd, upd_upd]
            exact ⟨rfl, ys, 0, (z * 31 + y + 7) % 2147483647, upd_same, gl3 _, hys, by decide, Int.emod_nonneg _ (by decide), Int.emod_lt_of_pos _ (by decide), kp3 _⟩
          · exact ⟨rfl, ys, y, z, upd_same, gl3 _, hys, by
              have h18 : (0 : Int) ≤ 10 ^ (18 : Int).toNat := by decide
              omega, hz0, hz1, kp3 _⟩
      · exact ⟨rfl, ns, x, z, upd_same, hl1, hl, hx, hz0, hz1, kp1⟩
    rintro _ H1 ⟨rfl, ns', x', z', g1, g2, gl, gx, gz0, gz1, kp⟩
    refine ⟨_, rfl, a, _, 1, _, rfl, rfl, SqL.of g1, rfl, _, _, rfl, rfl, _, rfl, ifD_2 (fun hp => ?_) (fun _ => ?_)⟩
    · refine ⟨_, rfl, a, _, 1, _, rfl, rfl, SqL.of g1, rfl, .inl ⟨_, rfl, _, rfl, _, _, rfl, rfl, hm, ?_⟩⟩
      refine ⟨_, rfl, a, _, 1, _, rfl, rfl, SqL.of g1, rfl, _, rfl, _, _, rfl, rfl, hW _, _, rfl, a, _, 1, 1, rfl, rfl, g1, rfl, _, rfl, ?_⟩
      refine k (x' % many) _ (Int.emod_nonneg _ (by omega)) (Int.emod_lt_of_pos _ hm) ⟨ne, ns', x' / many, z', upd_same, by rw [upd_ne ne.symm]; exact g2, gl, Int.ediv_nonneg gx (by omega), gz0, gz1⟩ fun c o ca cl e => by
        rw [upd_ne ca]; exact kp c o ca cl e
    · have hn' : (n : Int) ≤ 100000 := by omega
      have hn0 : (0 : Int) ≤ n := by omega
      refine ⟨_, rfl, a, _, 3, _, rfl, rfl, SqL.of g1, rfl, _, rfl, a, _, 2, _, rfl, rfl, SqL.of g1, rfl, _, _, rfl, rfl, .inl (by decide), _, _, rfl, rfl, _, _, rfl, rfl, _, _, rfl, rfl, ?_, _, _, rfl, rfl, (by show (0 : Int) < 2147483629; decide), ?_⟩
      · show CPow _ 5
        refine ⟨by decide, by decide, ?_⟩
        have e64 : (2 : Nat) ^ 64 = 18446744073709551616 := by decide
        rw [e64]
        omega
      · generalize hmx : ((z' + 104729 * ((n : Int) + 1) + 17) ^ (5 : Int).toNat) % 2147483629 = mx
        have m0 : 0 ≤ mx := by rw [← hmx]; exact Int.emod_nonneg _ (by decide)
        have m1 : mx < 2147483629 := by rw [← hmx]; exact Int.emod_lt_of_pos _ (by decide)
        refine ⟨_, rfl, _, _, rfl, rfl, .inr (by decide), _, rfl, a, _, 2, _, rfl, rfl, SqL.of g1, rfl, _, _, rfl, rfl, .inl (by decide), _, rfl, a, _, 2, _, rfl, rfl, SqL.of g1, rfl, _, _, rfl, rfl, .inr ?_, _, _, rfl, rfl, _, _, rfl, rfl, _, _, rfl, rfl, ?_, _, _, rfl, rfl, (by show (0 : Int) < 1000000007; decide), _, rfl, _, _, rfl, rfl, hm, ?_⟩
        · have e64 : (2 : Int) ^ 64 = 18446744073709551616 := by decide
          rw [e64]
          omega
        · show CPow _ 3
          refine ⟨by decide, by decide, ?_⟩
          have e64 : (2 : Nat) ^ 64 = 18446744073709551616 := by decide
          rw [e64]
          have q0 : 0 ≤ 40503 * ((n : Int) + 1) * ((n : Int) + 1) := Int.mul_nonneg (by omega) (by omega)
          have q1 : 40503 * ((n : Int) + 1) * ((n : Int) + 1) ≤ 40503 * 100001 * 100001 := Int.mul_le_mul (by omega) (by omega) (by omega) (by decide)
          omega
        · exact k _ _ (Int.emod_nonneg _ (by omega)) (Int.emod_lt_of_pos _ hm) ⟨ne, ns', x', z', g1, g2, gl, gx, gz0, gz1⟩ kp
end
theorem sm9000 {x : Int} {n : Nat} (h : Sm n x) (hn : n ≤ 9000) : Sm 9000 x := h.mono hn
theorem sm_small {x : Int} (h : x.natAbs < 8) : Sm 9000 x := sm9000 (n := 3) h (by decide)
def spStart (K : PySem.W.Frag) : Sp := fun vs H Q _ => ∃ (p : Addr) (ns : List Int), vs = [.ref p] ∧ SqL K H p (ns.map V.int) ∧ ns.length ≤ 63 ∧ ∀ (a l : Addr) (H' : Hp), StreamAt H' a l 0 → H a = none → H l = none → Same H H' → Q (.ref a) H'
section
variable {P : Program} {w : World} {K : PySem.W.Frag} {mg : Str → Option Value} {base : Heap} {C : Addr}
theorem scStart : FnScope ["_law_script"] ["_law_script"] (defScope sStart) := ⟨rfl, rfl, rfl, by decide +kernel, rfl, by decide +kernel, by decide +kernel⟩
theorem ok_start {f : Addr} {fd : FuncData} (F : Fun K "_law_start" "_law_start" sStart f fd) (T : Txt K mg) : FnOk P w K mg base CX0 1 f fd ["_law_script"] (spStart K) := by
  refine F.ok scStart (fun vs H Q E h => ?_) (fun cdv A outer s H vs Q E hr h => ?_)
  · obtain ⟨p, ns, rfl, _⟩ := h
    rfl
  · obtain ⟨p, ns, rfl, hS, hl, k⟩ := h
    refine ⟨_, pss_one (ps_ret (pe_lst (pa_cons (pe_callTy call_list_of (by rfl) T.list_ boot_list' (pa_cons (pv 0) pa_nil)) (pa_cons pe_int (pa_cons pe_int (pa_cons pe_int pa_nil)))))), ?_⟩
    refine ⟨_, rfl, p, _, rfl, .inl hS, fun l hl' => ⟨by show 4 ≤ sizeLine; decide, fun a ha => ?_⟩⟩
    have nal : a ≠ l := fun e => by rw [e, upd_same] at ha; cases ha
    have ha0 : H a = Option.none := by rw [upd_ne nal] at ha; exact ha
    exact k a l _ ⟨nal, ns, 0, 0, upd_same, by rw [upd_ne nal.symm, upd_same], hl, by decide, by decide, by decide⟩ ha0 hl' ((new_ hl').trans (new_ ha))
end
theorem StreamAt.ne {H : Hp} {a l p : Addr} {n : Nat} (S : StreamAt H a l n) (h : H p = none) : p ≠ a ∧ p ≠ l := by
  obtain ⟨ne, ns, x, z, h1, h2, _⟩ := S
  exact ⟨(ne_of_none h1 h).symm, (ne_of_none h2 h).symm⟩
theorem sm48 {z : Int} (h1 : 1 ≤ z) (h2 : z ≤ 48) : Sm 9000 z := by
  refine sm9000 (n := 6) ?_ (by decide)
  have e : (2 : Nat) ^ 6 = 64 := by decide
  show z.natAbs < 2 ^ 6
  rw [e]
  omega
theorem StreamAt.at_ {H : Hp} {a l : Addr} {n m : Nat} (S : StreamAt H a l n) (e : n = m) : StreamAt H a l m := e ▸ S
theorem StreamAt.lst {H : Hp} {a l p : Addr} {n : Nat} {xs ys : List V} (S : StreamAt H a l n) (hp : H p = some (.lst xs)) (pa : p ≠ a) (pl : p ≠ l) : StreamAt (upd H p (.lst ys)) a l n := by
  obtain ⟨ne, ns, x, z, h1, h2, h3⟩ := S
  exact ⟨ne, ns, x, z, by rw [upd_ne pa.symm]; exact h1, by rw [upd_ne pl.symm]; exact h2, h3⟩

def spPick : Sp := fun vs H Q _ => ∃ (a l L : Addr) (n : Nat) (xs : List V), vs = [.ref a, .ref L] ∧ StreamAt H a l n ∧ n ≤ 20000 ∧ H L = some (.lst xs) ∧ L ≠ a ∧ L ≠ l ∧ 1 ≤ xs.length ∧ xs.length ≤ 48 ∧
  ∀ (i : Nat) (x : V) (H' : Hp), xs[i]? = some x → StreamAt H' a l (n + 1) → Keep a l H H' → Q x H'
section
variable {P : Program} {w : World} {K : PySem.W.Frag} {mg : Str → Option Value} {base : Heap} {C : Addr}
theorem scPick : FnScope ["_law_stream", "_law_some"] ["_law_stream", "_law_some"] (defScope sPick) := ⟨rfl, rfl, rfl, by decide +kernel, rfl, by decide +kernel, by decide +kernel⟩
theorem ok_pick {f g : Addr} {fd gd : FuncData} (F : Fun K "_law_pick" "_law_pick" sPick f fd) (T : Txt K mg) (D : Df K mg "_law_draw" sDraw g gd ["_law_stream", "_law_many"]) : FnOk P w K mg base CX0 2 f fd ["_law_stream", "_law_some"] spPick := by
  have G : FnOk P w K mg base CX0 1 g gd ["_law_stream", "_law_many"] spDraw := ok_draw D.F T
  refine F.ok scPick (fun vs H Q E h => ?_) (fun cdv A outer s H vs Q E hr h => ?_)
  · obtain ⟨a, l, L, n, _, rfl, _⟩ := h
    rfl
  · obtain ⟨a, l, L, n, xs, rfl, S0, hn, hL, La, Ll, h1, h48, kk⟩ := h
    refine ⟨_, pss_one (ps_ret (pe_ix ix_list (pv 1) (pe_call G hr rfl D.M D.F.kp D.B .nil pass0 (pa_cons (pv 0) (pa_cons (pe_callB call_len_seq (by rfl) T.len_ PySem.boot_len (pa_cons (pv 1) pa_nil)) pa_nil))) (fun _ _ => rfl))), ?_⟩
    refine ⟨_, rfl, _, rfl, _, rfl, L, xs, rfl, .inl (SqL.of hL), a, l, n, _, rfl, S0, by omega, by omega, sm48 (by omega) (by omega), fun r H1 r0 r1 S1 kp1 => ?_⟩
    have hi : r.toNat < xs.length := by omega
    have hx : xs[r.toNat]? = some xs[r.toNat] := List.getElem?_eq_getElem hi
    have ha := atI_nat hx
    rw [Int.toNat_of_nonneg r0] at ha
    exact ⟨L, xs, r, _, rfl, rfl, SqL.of (kp1 _ _ La Ll hL), ha, kk _ _ H1 hx S1 kp1⟩
end
theorem pe_bmF {X : Cx} {K : PySem.W.Frag} (hK : X.K = K) {o e : PySem.Expr} {es : List PySem.Expr} {to : TE} {t : TA} {name : Str} {apos cpos : Pos} {T id : String} {r : V → List V → Hp → VK → Prop} (pa : PlainAttrs T) (sl : Slot T name id) (hty : typeOf (Value.builtin id) = pure (Value.type "method_descriptor")) (hm : MtR X id r) (ho : PE X o to) (ha : PA X (e :: es) t)
    (h1 : attributeBase o name X.env (eval o X.env) = eval o X.env := by rfl)
    (h2 : ((((backTo cpos (starEach (e :: es) X.env)).all fun x => !x.fst) && (backToKw cpos (keywordEach [] X.env)).all fun x => x.fst.isSome) && decide (((e :: es).length + ([] : List Keyword).length + if ([] : List Keyword).isEmpty = true then 0 else 1) < 30)) = true := by rfl)
    (h3 : (apos.endLine == cpos.line) = true := by rfl)
    (h4 : starEach (e :: es) X.env = (false, eval e X.env) :: starEach es X.env := by rfl)
    (h5 : ((backTo cpos (starEach es X.env)).any fun x => x.fst) = false := by rfl) : PE X ((o.Attribute name apos).Call (e :: es) [] cpos) (tBM K T r to t) := by
  subst hK
  exact pe_bm pa sl hty hm ho ha h1 h2 h3 h4 h5
theorem erase_perm {α : Type} {l : List α} {i : Nat} (h : i < l.length) : (l[i] :: l.eraseIdx i).Perm l := by
  rw [List.eraseIdx_eq_take_drop_succ]
  have e : l.take i ++ l[i] :: l.drop (i + 1) = l := by
    rw [← List.drop_eq_getElem_cons h, List.take_append_drop]
  have p : (l.take i ++ l[i] :: l.drop (i + 1)).Perm (l[i] :: (l.take i ++ l.drop (i + 1))) := List.perm_middle
  rw [e] at p
  exact p.symm
theorem keep_updB {a l D : Addr} {H H' : Hp} {o : HO} (k : Keep a l H H') (hD : H D = Option.none) : Keep a l H (upd H' D o) := fun c u ca cl e => by
  rw [upd_ne (ne_of_none e hD)]
  exact k c u ca cl e
theorem keep_none {a l : Addr} {H H' : Hp} {p : Addr} (k : Keep a l H H') (pa : p ≠ a) (pl : p ≠ l) (h : H' p = Option.none) : H p = Option.none := by
  cases e : H p with
  | none => rfl
  | some o => rw [k p o pa pl e] at h; cases h
def spMixed : Sp := fun vs H Q _ => ∃ (a l L : Addr) (n : Nat) (xs : List V), vs = [.ref a, .ref L] ∧ StreamAt H a l n ∧ n ≤ 20000 ∧ H L = some (.lst xs) ∧ xs.length ≤ 48 ∧
  ∀ (t : Addr) (ys : List V) (H' : Hp), H' t = some (.lst ys) → ys.Perm xs → t ≠ a → t ≠ l → H t = none → StreamAt H' a l (n + xs.length) → Keep a l H H' → Q (.ref t) H'
section
variable {P : Program} {w : World} {K : PySem.W.Frag} {mg : Str → Option Value} {base : Heap} {C : Addr}
theorem scMixed : FnScope ["_law_stream", "_law_some", "_law_left", "_law_k"] ["_law_stream", "_law_some"] (defScope sMixed) := ⟨rfl, rfl, rfl, by decide +kernel, rfl, by decide +kernel, by decide +kernel⟩
theorem ok_mixed {f g : Addr} {fd gd : FuncData} (F : Fun K "_law_mixed" "_law_mixed" sMixed f fd) (T : Txt K mg) (D : Df K mg "_law_draw" sDraw g gd ["_law_stream", "_law_many"]) : FnOk P w K mg base CX0 2 f fd ["_law_stream", "_law_some"] spMixed := by
  have G : FnOk P w K mg base CX0 1 g gd ["_law_stream", "_law_many"] spDraw := ok_draw D.F T
  refine F.ok scMixed (fun vs H Q E h => ?_) (fun cdv A outer s H vs Q E hr h => ?_)
  · obtain ⟨a, l, L, n, _, rfl, _⟩ := h
    rfl
  · obtain ⟨a, l, L, n, xs, rfl, S0, hn, hL, h48, kk⟩ := h
    refine ⟨_, pss_cons (ps_set (i := 2) scMixed.nd rfl (Or.inr rfl) (pe_callTy call_list_of (by rfl) T.list_ boot_list' (pa_cons (pv 1) pa_nil)))
      (pss_one (ps_ret (pe_lc (own := [("_law_k", 3)]) (g := gName 3) (tt := tYes) (by rfl) scMixed.nd (pi_range1 (by rfl) T.range_ (pa_cons (pe_callB call_len_seq (by rfl) T.len_ PySem.boot_len (pa_cons (pv 2) pa_nil)) pa_nil)) (blkOk_by (N := ["_law_stream", "_law_some", "_law_left", "_law_k"]) (sc := defScope sMixed) (by decide +kernel))
          (fun _ _ _ _ _ => pg_name (i := 3) scMixed.nd rfl (Or.inl rfl)) (fun _ _ _ _ _ => pts_nil)
          (fun _ _ _ _ _ => pe_bmF (K := K) rfl PySem.F.plainAttrs_list PySem.F.slot_list_pop PySem.F.type_list_pop mt_popAt (pv 2) (pa_cons (pe_call G hr rfl D.M D.F.kp D.B .nil pass0 (pa_cons (pv 0) (pa_cons (pe_callB (call_lenK (K := K) rfl) (by rfl) T.len_ PySem.boot_len (pa_cons (pv 2) pa_nil)) pa_nil))) pa_nil))))), ?_⟩
    refine ⟨_, rfl, L, xs, rfl, .inl (SqL.of hL), fun W hW => ?_⟩
    have sW := new_ (o := .lst xs) hW
    obtain ⟨Wa, Wl⟩ := S0.ne hW
    refine ⟨_, rfl, W, _, rfl, .inl (SqL.of upd_same), _, rfl, by omega, by omega, fun Dd hD => ?_⟩
    have hD0 : H Dd = none := by
      cases e : H Dd with
      | none => rfl
      | some o => have := sW _ _ e; rw [hD] at this; cases this
    obtain ⟨Da, Dl⟩ := S0.ne hD0
    have neWD : W ≠ Dd := fun e => by rw [← e, upd_same] at hD; cases hD
    have S1 := (S0.same sW).same (new_ (o := .lst []) hD)
    refine lc_range (n := xs.length) (fun i H' => StreamAt H' a l (n + i) ∧ Keep a l H H' ∧ ∃ left acc, H' W = some (.lst left) ∧ H' Dd = some (.lst acc) ∧ acc.length = i ∧ left.length + i = xs.length ∧ (acc ++ left).Perm xs) ?_ ?_ ?_
    · exact ⟨S1, keep_updB (keep_updB (Keep.refl _ _ _) hW) hD0, xs, [], by rw [upd_ne neWD]; exact upd_same, upd_same, rfl, rfl, List.Perm.refl _⟩
    · rintro i H2 hi ⟨S2, k2, left, acc, hw, hd, hl, hll, hp⟩
      refine ⟨rfl, ?_⟩
      dsimp only [tYes]
      rw [if_pos rfl]
      refine ⟨_, rfl, .inl ⟨rfl, _, SqL.of hw⟩, _, rfl, _, rfl, W, left, rfl, .inl (SqL.of hw), a, l, _, _, rfl, S2, by omega, by omega, sm48 (by omega) (by omega), fun r H3 r0 r1 S3 k3 => ?_⟩
      have hw3 := k3 _ _ Wa Wl hw
      have hd3 := k3 _ _ Da Dl hd
      have hlt : r.toNat < left.length := by omega
      have hx : left[r.toNat]? = some left[r.toNat] := List.getElem?_eq_getElem hlt
      have hsi : seqIndex? r left.length = some r.toNat := by
        unfold seqIndex?
        have e : ¬ r < 0 := by omega
        have e2 : r < (left.length : Int) := by omega
        simp [e, r0, e2]
      refine ⟨W, left, r, r.toNat, left[r.toNat], rfl, rfl, hw3, by omega, by omega, hsi, hx, ?_⟩
      refine ⟨acc, by rw [upd_ne neWD.symm]; exact hd3, Nat.lt_of_lt_of_le (by omega : acc.length < 49) (by decide), ?_⟩
      have hw4 : (upd H3 W (.lst (left.eraseIdx r.toNat))) Dd = some (.lst acc) := by rw [upd_ne neWD.symm]; exact hd3
      refine ⟨(S3.lst hw3 Wa Wl).lst hw4 Da Dl |>.at_ (by omega), keep_updB (keep_updB (k2.trans k3) hW) hD0, left.eraseIdx r.toNat, acc ++ [left[r.toNat]], by rw [upd_ne neWD]; exact upd_same, upd_same, by rw [List.length_append, hl]; rfl, by rw [List.length_eraseIdx_of_lt hlt]; omega, ?_⟩
      refine List.Perm.trans ?_ hp
      rw [List.append_assoc]
      exact List.Perm.append_left _ (erase_perm hlt)
    · rintro H2 ⟨S2, k2, left, acc, hw, hd, hl, hll, hp⟩
      have : left = [] := List.length_eq_zero_iff.mp (by omega)
      subst this
      rw [List.append_nil] at hp
      exact kk Dd acc H2 hd hp Da Dl hD0 S2 k2
end
end PA

set_option maxHeartbeats 4000000
namespace PA
open PySem L2 RZ
/-! ### a comprehension over zip -/
section
variable {K : PySem.W.Frag} {a b : Addr} {xs ys : List V} {g : TG} {tt : TT} {te : TE} {vs : List Nat} {σ : L2.St} {H1 : Hp} {D : Addr} {Qd : Hp → Prop}
theorem lc_zipL (hl : xs.length = ys.length) (Pv : Nat → Hp → Prop) (h0 : Pv 0 (upd H1 D (.lst []))) (hq : ∀ i H, Pv i H → SqL K H a xs ∧ SqL K H b ys)
    (hs : ∀ (i : Nat) (x y : V) (T : Addr) (H : Hp), xs[i]? = some x → ys[i]? = some y → Pv i H → H T = none → g (.ref T) (wipe σ vs) (upd H T (.tup [x, y])) fun σ2 H2 => wipe σ2 vs = wipe σ vs ∧ tt σ2 H2 fun c H3 =>
      if c = true then te σ2 H3 fun z H4 => ∃ acc, H4 D = some (.lst acc) ∧ acc.length < sizeLine ∧ Pv (i + 1) (upd H4 D (.lst (acc ++ [z]))) else Pv (i + 1) H3) (hd : ∀ H, Pv xs.length H → Qd H) :
    ∃ W : Nat → Nat → Hp → Prop, (∃ m, W 0 m (upd H1 D (.lst []))) ∧ ∀ i m H, W i m H →
      ((Itz K a b).stop i H ∧ Qd H) ∨ ((Itz K a b).go i H ∧ ∃ Nx : Hp → Prop, (∀ H', Nx H' → ∃ m', m' < m ∧ W (i + 1) m' H') ∧ ∀ x H', (Itz K a b).yld i H x H' → g x (wipe σ vs) H' fun σ2 H2 => wipe σ2 vs = wipe σ vs ∧ tt σ2 H2 fun c H3 =>
        if c = true then te σ2 H3 fun z H4 => ∃ acc, H4 D = some (.lst acc) ∧ acc.length < sizeLine ∧ Nx (upd H4 D (.lst (acc ++ [z]))) else Nx H3) := by
  refine ⟨fun i m H => m = xs.length - i ∧ i ≤ xs.length ∧ Pv i H, ⟨xs.length, rfl, Nat.zero_le _, h0⟩, ?_⟩
  rintro i m H ⟨rfl, hi, p⟩
  obtain ⟨qx, qy⟩ := hq i H p
  by_cases hlt : i < xs.length
  · have hx : xs[i]? = some xs[i] := List.getElem?_eq_getElem hlt
    have hlt2 : i < ys.length := by omega
    have hy : ys[i]? = some ys[i] := List.getElem?_eq_getElem hlt2
    refine .inr ⟨⟨xs, ys, _, _, qx, qy, hx, hy⟩, Pv (i + 1), fun H' p' => ⟨xs.length - (i + 1), by omega, rfl, hlt, p'⟩, fun v H' y => ?_⟩
    obtain ⟨T, x', y', rfl, hT, rfl, f1, f2⟩ := y
    exact hs i x' y' T H (f1 xs qx) (f2 ys qy) p hT
  · have e : i = xs.length := by omega
    subst e
    exact .inl ⟨⟨xs, ys, qx, qy, Or.inl (Nat.le_refl _)⟩, hd H p⟩
theorem lc_zipT (hl : xs.length = ys.length) (Pv : Nat → Hp → Prop) (h0 : Pv 0 (upd H1 D (.lst []))) (hq : ∀ i H, Pv i H → SqT K H a xs ∧ SqT K H b ys)
    (hs : ∀ (i : Nat) (x y : V) (T : Addr) (H : Hp), xs[i]? = some x → ys[i]? = some y → Pv i H → H T = none → g (.ref T) (wipe σ vs) (upd H T (.tup [x, y])) fun σ2 H2 => wipe σ2 vs = wipe σ vs ∧ tt σ2 H2 fun c H3 =>
      if c = true then te σ2 H3 fun z H4 => ∃ acc, H4 D = some (.lst acc) ∧ acc.length < sizeLine ∧ Pv (i + 1) (upd H4 D (.lst (acc ++ [z]))) else Pv (i + 1) H3) (hd : ∀ H, Pv xs.length H → Qd H) :
    ∃ W : Nat → Nat → Hp → Prop, (∃ m, W 0 m (upd H1 D (.lst []))) ∧ ∀ i m H, W i m H →
      ((ItzT K a b).stop i H ∧ Qd H) ∨ ((ItzT K a b).go i H ∧ ∃ Nx : Hp → Prop, (∀ H', Nx H' → ∃ m', m' < m ∧ W (i + 1) m' H') ∧ ∀ x H', (ItzT K a b).yld i H x H' → g x (wipe σ vs) H' fun σ2 H2 => wipe σ2 vs = wipe σ vs ∧ tt σ2 H2 fun c H3 =>
        if c = true then te σ2 H3 fun z H4 => ∃ acc, H4 D = some (.lst acc) ∧ acc.length < sizeLine ∧ Nx (upd H4 D (.lst (acc ++ [z]))) else Nx H3) := by
  refine ⟨fun i m H => m = xs.length - i ∧ i ≤ xs.length ∧ Pv i H, ⟨xs.length, rfl, Nat.zero_le _, h0⟩, ?_⟩
  rintro i m H ⟨rfl, hi, p⟩
  obtain ⟨qx, qy⟩ := hq i H p
  by_cases hlt : i < xs.length
  · have hx : xs[i]? = some xs[i] := List.getElem?_eq_getElem hlt
    have hlt2 : i < ys.length := by omega
    have hy : ys[i]? = some ys[i] := List.getElem?_eq_getElem hlt2
    refine .inr ⟨⟨xs, ys, _, _, qx, qy, hx, hy⟩, Pv (i + 1), fun H' p' => ⟨xs.length - (i + 1), by omega, rfl, hlt, p'⟩, fun v H' y => ?_⟩
    obtain ⟨T, x', y', rfl, hT, rfl, f1, f2⟩ := y
    exact hs i x' y' T H (f1 xs qx) (f2 ys qy) p hT
  · have e : i = xs.length := by omega
    subst e
    exact .inl ⟨⟨xs, ys, qx, qy, Or.inl (Nat.le_refl _)⟩, hd H p⟩
end
/-! ### two values that are the same, to the depth n: ints, bools, lists and tuples of such -/
inductive Two (K : PySem.W.Frag) (H : Hp) : Nat → V → V → Prop where
  | bl (n : Nat) (b : Bool) : Two K H n (.bl b) (.bl b)
  | int (n : Nat) (i : Int) : Two K H n (.int i) (.int i)
  | non (n : Nat) : Two K H n .non .non
  | str (n : Nat) (x : Str) : Two K H n (.str x) (.str x)
  | lst {n : Nat} {a b : Addr} {xs ys : List V} (ha : H a = some (.lst xs)) (hb : H b = some (.lst ys)) (hl : xs.length = ys.length) (hsz : xs.length ≤ sizeLine) (hi : ∀ (i : Nat) (x y : V), xs[i]? = some x → ys[i]? = some y → Two K H n x y) : Two K H (n + 1) (.ref a) (.ref b)
  | tup {n : Nat} {a b : Addr} {xs ys : List V} (ha : SqT K H a xs) (hb : SqT K H b ys) (hl : xs.length = ys.length) (hsz : xs.length ≤ sizeLine) (hi : ∀ (i : Nat) (x y : V), xs[i]? = some x → ys[i]? = some y → Two K H n x y) : Two K H (n + 1) (.ref a) (.ref b)
theorem Two.same {K : PySem.W.Frag} {H H' : Hp} {n : Nat} {x y : V} (t : Two K H n x y) (s : Same H H') : Two K H' n x y := by
  induction t with
  | bl n b => exact .bl n b
  | int n i => exact .int n i
  | non n => exact .non n
  | str n x => exact .str n x
  | lst ha hb hl hz _ ih => exact .lst (s _ _ ha) (s _ _ hb) hl hz ih
  | tup ha hb hl hz _ ih => exact .tup (SqT.up ha s) (SqT.up hb s) hl hz ih
theorem tyT {K : PySem.W.Frag} {H : Hp} {a : Addr} {xs : List V} (h : SqT K H a xs) : TyX K H (.ref a) (.type "tuple") := by
  rcases h with (h | ⟨ob, h⟩) | ⟨o, its, n, h1, h2, _⟩
  · exact .base (.tup h)
  · exact .fTuple h
  · exact .kTuple h1 h2
def spSame (K : PySem.W.Frag) (n : Nat) : Sp := fun vs H Q _ => ∃ x y, vs = [x, y] ∧ Two K H n x y ∧ ∀ H', Same H H' → Q (.bl true) H'
section
variable {P : Program} {w : World} {K : PySem.W.Frag} {mg : Str → Option Value} {base : Heap} {C : Addr}
theorem scSame : FnScope ["_law_found", "_law_due", "_law_one", "_law_other"] ["_law_found", "_law_due"] (defScope sSame) := ⟨rfl, rfl, rfl, by decide +kernel, rfl, by decide +kernel, by decide +kernel⟩
theorem kit2 {t : String} {b1 b2 r : Bool} (h1 : kitB t "list" = some b1) (h2 : kitB t "tuple" = some b2) (hr : (b1 || b2) = r) : PySem.W.kitAny K (.type t) [.type "list", .type "tuple"] = some r := by
  subst hr
  refine kitAny_cons (b := b1) (kit_ty h1) (fun e => ?_) (fun e => by rw [e]; rfl)
  subst e
  refine kitAny_cons (b := b2) (kit_ty h2) (fun e => ?_) (fun e => by rw [e]; rfl)
  subst e
  exact kitAny_nil
theorem kit3 {t : String} (h1 : kitB t "int" = some false) (h2 : kitB t "list" = some false) (h3 : kitB t "tuple" = some false) : PySem.W.kitAny K (.type t) [.type "int", .type "list", .type "tuple"] = some false := by
  refine kitAny_cons (b := false) (kit_ty h1) (fun _ => ?_) (fun e => by cases e)
  refine kitAny_cons (b := false) (kit_ty h2) (fun _ => ?_) (fun e => by cases e)
  refine kitAny_cons (b := false) (kit_ty h3) (fun _ => ?_) (fun e => by cases e)
  exact kitAny_nil
theorem ok_same {f : Addr} {fd : FuncData} (D : Df K mg "_law_same" sSame f fd ["_law_found", "_law_due"]) (T : Txt K mg) : ∀ n : Nat, FnOk P w K mg base CX0 (n + 1) f fd ["_law_found", "_law_due"] (spSame K n) := by
  have hlen : ∀ n, ∀ vs H Q E, spSame K n vs H Q E → vs.length = (["_law_found", "_law_due"] : List Str).length := fun n vs H Q E h => by
    obtain ⟨x, y, rfl, _⟩ := h
    rfl
  intro n
  induction n with
  | zero =>
    refine D.F.ok scSame (hlen 0) (fun cdv A outer s H vs Q E hr h => ?_)
    obtain ⟨x, y, rfl, t, k⟩ := h
    cases t with
    | int _ i =>
      refine ⟨_, pss_cons (ps_if (pt_val (pe_callB call_isiT (by rfl) T.isi boot_isi (pa_cons (pv 1) (pa_cons (pe_tup (pa_cons (pe_bltn (v := .ty "list") (by rfl) T.list_ boot_list' rfl) (pa_cons (pe_bltn (v := .ty "tuple") (by rfl) T.tup_ boot_tuple' rfl) pa_nil))) pa_nil)))) pss_never pss_nil)
      (pss_cons (ps_if (pt_val (pe_callB call_isi (by rfl) T.isi boot_isi (pa_cons (pv 1) (pa_cons (pe_bltn (v := .ty "int") (by rfl) T.int_ boot_int' rfl) pa_nil))))
        (pss_one (ps_ret (pe_and (pe_callB call_isi (by rfl) T.isi boot_isi (pa_cons (pv 0) (pa_cons (pe_bltn (v := .ty "int") (by rfl) T.int_ boot_int' rfl) pa_nil)))
          (pe_and (pe_cmpR op_eq (pe_callB call_isi (by rfl) T.isi boot_isi (pa_cons (pv 0) (pa_cons (pe_bltn (v := .ty "bool") (by rfl) T.bool_ boot_bool' rfl) pa_nil))) (pe_callB call_isi (by rfl) T.isi boot_isi (pa_cons (pv 1) (pa_cons (pe_bltn (v := .ty "bool") (by rfl) T.bool_ boot_bool' rfl) pa_nil))) (nomark _))
            (pe_one (pe_cmpR op_eq (pv 0) (pv 1) (nomark _))))))) pss_nil) pss_never), ?_⟩
      refine ⟨_, rfl, by show 2 ≤ sizeLine; decide, fun tp htp => ⟨_, tp, _, _, [.type "list", .type "tuple"], _, rfl, upd_same, .cons (.ty _) (.cons (.ty _) .nil), .base (.int i), kit2 (b1 := false) (b2 := false) (by decide +kernel) (by decide +kernel) rfl, _, rfl, iteF ?_⟩⟩
      refine ⟨_, rfl, _, _, _, _, _, rfl, .ty _, .base (.int i), kit_ty (b := "int") (r := true) (by decide +kernel), _, rfl, iteT ?_⟩
      refine ⟨_, rfl, _, _, _, _, _, rfl, .ty _, .base (.int i), kit_ty (b := "int") (r := true) (by decide +kernel), _, rfl, iteT ?_⟩
      refine ⟨_, rfl, _, _, _, _, _, rfl, .ty _, .base (.int i), kit_ty (b := "bool") (r := false) (by decide +kernel), _, rfl, _, _, _, _, _, rfl, .ty _, .base (.int i), kit_ty (b := "bool") (r := false) (by decide +kernel), rfl, _, rfl, ifD_yes rfl ?_⟩
      refine ⟨_, rfl, _, rfl, rfl, ?_⟩
      show Q (V.bl (decide (V.int i = V.int i))) _
      rw [decide_eq_true rfl]
      exact k _ (new_ htp)
    | bl _ b =>
      refine ⟨_, pss_cons (ps_if (pt_val (pe_callB call_isiT (by rfl) T.isi boot_isi (pa_cons (pv 1) (pa_cons (pe_tup (pa_cons (pe_bltn (v := .ty "list") (by rfl) T.list_ boot_list' rfl) (pa_cons (pe_bltn (v := .ty "tuple") (by rfl) T.tup_ boot_tuple' rfl) pa_nil))) pa_nil)))) pss_never pss_nil)
      (pss_cons (ps_if (pt_val (pe_callB call_isi (by rfl) T.isi boot_isi (pa_cons (pv 1) (pa_cons (pe_bltn (v := .ty "int") (by rfl) T.int_ boot_int' rfl) pa_nil))))
        (pss_one (ps_ret (pe_and (pe_callB call_isi (by rfl) T.isi boot_isi (pa_cons (pv 0) (pa_cons (pe_bltn (v := .ty "int") (by rfl) T.int_ boot_int' rfl) pa_nil)))
          (pe_and (pe_cmpR op_eq (pe_callB call_isi (by rfl) T.isi boot_isi (pa_cons (pv 0) (pa_cons (pe_bltn (v := .ty "bool") (by rfl) T.bool_ boot_bool' rfl) pa_nil))) (pe_callB call_isi (by rfl) T.isi boot_isi (pa_cons (pv 1) (pa_cons (pe_bltn (v := .ty "bool") (by rfl) T.bool_ boot_bool' rfl) pa_nil))) (nomark _))
            (pe_one (pe_cmpR op_eq (pv 0) (pv 1) (nomark _))))))) pss_nil) pss_never), ?_⟩
      refine ⟨_, rfl, by show 2 ≤ sizeLine; decide, fun tp htp => ⟨_, tp, _, _, [.type "list", .type "tuple"], _, rfl, upd_same, .cons (.ty _) (.cons (.ty _) .nil), .base (.bl b), kit2 (b1 := false) (b2 := false) (by decide +kernel) (by decide +kernel) rfl, _, rfl, iteF ?_⟩⟩
      refine ⟨_, rfl, _, _, _, _, _, rfl, .ty _, .base (.bl b), kit_ty (b := "int") (r := true) (by decide +kernel), _, rfl, iteT ?_⟩
      refine ⟨_, rfl, _, _, _, _, _, rfl, .ty _, .base (.bl b), kit_ty (b := "int") (r := true) (by decide +kernel), _, rfl, iteT ?_⟩
      refine ⟨_, rfl, _, _, _, _, _, rfl, .ty _, .base (.bl b), kit_ty (b := "bool") (r := true) (by decide +kernel), _, rfl, _, _, _, _, _, rfl, .ty _, .base (.bl b), kit_ty (b := "bool") (r := true) (by decide +kernel), rfl, _, rfl, ifD_yes rfl ?_⟩
      refine ⟨_, rfl, _, rfl, rfl, ?_⟩
      show Q (V.bl (decide (V.bl b = V.bl b))) _
      rw [decide_eq_true rfl]
      exact k _ (new_ htp)
    | non _ =>
      refine ⟨_, pss_cons (ps_if (pt_val (pe_callB call_isiT (by rfl) T.isi boot_isi (pa_cons (pv 1) (pa_cons (pe_tup (pa_cons (pe_bltn (v := .ty "list") (by rfl) T.list_ boot_list' rfl) (pa_cons (pe_bltn (v := .ty "tuple") (by rfl) T.tup_ boot_tuple' rfl) pa_nil))) pa_nil)))) pss_never pss_nil)
      (pss_cons (ps_if (pt_val (pe_callB call_isi (by rfl) T.isi boot_isi (pa_cons (pv 1) (pa_cons (pe_bltn (v := .ty "int") (by rfl) T.int_ boot_int' rfl) pa_nil)))) pss_never pss_nil)
      (pss_one (ps_ret (pe_and (pe_cmpR op_eq (pv 0) (pv 1) (nomark _)) (pe_one (pe_cmpR op_is_bl (pe_callB call_isiT (by rfl) T.isi boot_isi (pa_cons (pv 0) (pa_cons (pe_tup (pa_cons (pe_bltn (v := .ty "int") (by rfl) T.int_ boot_int' rfl) (pa_cons (pe_bltn (v := .ty "list") (by rfl) T.list_ boot_list' rfl) (pa_cons (pe_bltn (v := .ty "tuple") (by rfl) T.tup_ boot_tuple' rfl) pa_nil)))) pa_nil))) pe_bl (nomark _))))))), ?_⟩
      refine ⟨_, rfl, by show 2 ≤ sizeLine; decide, fun tp htp => ⟨_, tp, _, _, [.type "list", .type "tuple"], _, rfl, upd_same, .cons (.ty _) (.cons (.ty _) .nil), .base .non, kit2 (b1 := false) (b2 := false) (by decide +kernel) (by decide +kernel) rfl, _, rfl, iteF ?_⟩⟩
      refine ⟨_, rfl, _, _, _, _, _, rfl, .ty _, .base .non, kit_ty (b := "int") (r := false) (by decide +kernel), _, rfl, iteF ?_⟩
      refine ⟨_, rfl, _, rfl, rfl, _, rfl, ifD_yes rfl ?_⟩
      refine ⟨_, rfl, by show 3 ≤ sizeLine; decide, fun tq htq => ⟨_, tq, _, _, [.type "int", .type "list", .type "tuple"], _, rfl, upd_same, .cons (.ty _) (.cons (.ty _) (.cons (.ty _) .nil)), .base .non, kit3 (by decide +kernel) (by decide +kernel) (by decide +kernel), _, _, rfl, rfl, ?_⟩⟩
      exact k _ ((new_ htp).trans (new_ htq))
    | str _ x =>
      refine ⟨_, pss_cons (ps_if (pt_val (pe_callB call_isiT (by rfl) T.isi boot_isi (pa_cons (pv 1) (pa_cons (pe_tup (pa_cons (pe_bltn (v := .ty "list") (by rfl) T.list_ boot_list' rfl) (pa_cons (pe_bltn (v := .ty "tuple") (by rfl) T.tup_ boot_tuple' rfl) pa_nil))) pa_nil)))) pss_never pss_nil)
      (pss_cons (ps_if (pt_val (pe_callB call_isi (by rfl) T.isi boot_isi (pa_cons (pv 1) (pa_cons (pe_bltn (v := .ty "int") (by rfl) T.int_ boot_int' rfl) pa_nil)))) pss_never pss_nil)
      (pss_one (ps_ret (pe_and (pe_cmpR op_eq (pv 0) (pv 1) (nomark _)) (pe_one (pe_cmpR op_is_bl (pe_callB call_isiT (by rfl) T.isi boot_isi (pa_cons (pv 0) (pa_cons (pe_tup (pa_cons (pe_bltn (v := .ty "int") (by rfl) T.int_ boot_int' rfl) (pa_cons (pe_bltn (v := .ty "list") (by rfl) T.list_ boot_list' rfl) (pa_cons (pe_bltn (v := .ty "tuple") (by rfl) T.tup_ boot_tuple' rfl) pa_nil)))) pa_nil))) pe_bl (nomark _))))))), ?_⟩
      refine ⟨_, rfl, by show 2 ≤ sizeLine; decide, fun tp htp => ⟨_, tp, _, _, [.type "list", .type "tuple"], _, rfl, upd_same, .cons (.ty _) (.cons (.ty _) .nil), .base (.str x), kit2 (b1 := false) (b2 := false) (by decide +kernel) (by decide +kernel) rfl, _, rfl, iteF ?_⟩⟩
      refine ⟨_, rfl, _, _, _, _, _, rfl, .ty _, .base (.str x), kit_ty (b := "int") (r := false) (by decide +kernel), _, rfl, iteF ?_⟩
      refine ⟨_, rfl, _, rfl, rfl, _, rfl, ifD_yes rfl ?_⟩
      refine ⟨_, rfl, by show 3 ≤ sizeLine; decide, fun tq htq => ⟨_, tq, _, _, [.type "int", .type "list", .type "tuple"], _, rfl, upd_same, .cons (.ty _) (.cons (.ty _) (.cons (.ty _) .nil)), .base (.str x), kit3 (by decide +kernel) (by decide +kernel) (by decide +kernel), _, _, rfl, rfl, ?_⟩⟩
      exact k _ ((new_ htp).trans (new_ htq))
  | succ n ih =>
    refine D.F.ok scSame (hlen (n + 1)) (fun cdv A outer s H vs Q E hr h => ?_)
    obtain ⟨x, y, rfl, t, k⟩ := h
    cases t with
    | int _ i =>
      refine ⟨_, pss_cons (ps_if (pt_val (pe_callB call_isiT (by rfl) T.isi boot_isi (pa_cons (pv 1) (pa_cons (pe_tup (pa_cons (pe_bltn (v := .ty "list") (by rfl) T.list_ boot_list' rfl) (pa_cons (pe_bltn (v := .ty "tuple") (by rfl) T.tup_ boot_tuple' rfl) pa_nil))) pa_nil)))) pss_never pss_nil)
      (pss_cons (ps_if (pt_val (pe_callB call_isi (by rfl) T.isi boot_isi (pa_cons (pv 1) (pa_cons (pe_bltn (v := .ty "int") (by rfl) T.int_ boot_int' rfl) pa_nil))))
        (pss_one (ps_ret (pe_and (pe_callB call_isi (by rfl) T.isi boot_isi (pa_cons (pv 0) (pa_cons (pe_bltn (v := .ty "int") (by rfl) T.int_ boot_int' rfl) pa_nil)))
          (pe_and (pe_cmpR op_eq (pe_callB call_isi (by rfl) T.isi boot_isi (pa_cons (pv 0) (pa_cons (pe_bltn (v := .ty "bool") (by rfl) T.bool_ boot_bool' rfl) pa_nil))) (pe_callB call_isi (by rfl) T.isi boot_isi (pa_cons (pv 1) (pa_cons (pe_bltn (v := .ty "bool") (by rfl) T.bool_ boot_bool' rfl) pa_nil))) (nomark _))
            (pe_one (pe_cmpR op_eq (pv 0) (pv 1) (nomark _))))))) pss_nil) pss_never), ?_⟩
      refine ⟨_, rfl, by show 2 ≤ sizeLine; decide, fun tp htp => ⟨_, tp, _, _, [.type "list", .type "tuple"], _, rfl, upd_same, .cons (.ty _) (.cons (.ty _) .nil), .base (.int i), kit2 (b1 := false) (b2 := false) (by decide +kernel) (by decide +kernel) rfl, _, rfl, iteF ?_⟩⟩
      refine ⟨_, rfl, _, _, _, _, _, rfl, .ty _, .base (.int i), kit_ty (b := "int") (r := true) (by decide +kernel), _, rfl, iteT ?_⟩
      refine ⟨_, rfl, _, _, _, _, _, rfl, .ty _, .base (.int i), kit_ty (b := "int") (r := true) (by decide +kernel), _, rfl, iteT ?_⟩
      refine ⟨_, rfl, _, _, _, _, _, rfl, .ty _, .base (.int i), kit_ty (b := "bool") (r := false) (by decide +kernel), _, rfl, _, _, _, _, _, rfl, .ty _, .base (.int i), kit_ty (b := "bool") (r := false) (by decide +kernel), rfl, _, rfl, ifD_yes rfl ?_⟩
      refine ⟨_, rfl, _, rfl, rfl, ?_⟩
      show Q (V.bl (decide (V.int i = V.int i))) _
      rw [decide_eq_true rfl]
      exact k _ (new_ htp)
    | bl _ b =>
      refine ⟨_, pss_cons (ps_if (pt_val (pe_callB call_isiT (by rfl) T.isi boot_isi (pa_cons (pv 1) (pa_cons (pe_tup (pa_cons (pe_bltn (v := .ty "list") (by rfl) T.list_ boot_list' rfl) (pa_cons (pe_bltn (v := .ty "tuple") (by rfl) T.tup_ boot_tuple' rfl) pa_nil))) pa_nil)))) pss_never pss_nil)
      (pss_cons (ps_if (pt_val (pe_callB call_isi (by rfl) T.isi boot_isi (pa_cons (pv 1) (pa_cons (pe_bltn (v := .ty "int") (by rfl) T.int_ boot_int' rfl) pa_nil))))
        (pss_one (ps_ret (pe_and (pe_callB call_isi (by rfl) T.isi boot_isi (pa_cons (pv 0) (pa_cons (pe_bltn (v := .ty "int") (by rfl) T.int_ boot_int' rfl) pa_nil)))
          (pe_and (pe_cmpR op_eq (pe_callB call_isi (by rfl) T.isi boot_isi (pa_cons (pv 0) (pa_cons (pe_bltn (v := .ty "bool") (by rfl) T.bool_ boot_bool' rfl) pa_nil))) (pe_callB call_isi (by rfl) T.isi boot_isi (pa_cons (pv 1) (pa_cons (pe_bltn (v := .ty "bool") (by rfl) T.bool_ boot_bool' rfl) pa_nil))) (nomark _))
            (pe_one (pe_cmpR op_eq (pv 0) (pv 1) (nomark _))))))) pss_nil) pss_never), ?_⟩
      refine ⟨_, rfl, by show 2 ≤ sizeLine; decide, fun tp htp => ⟨_, tp, _, _, [.type "list", .type "tuple"], _, rfl, upd_same, .cons (.ty _) (.cons (.ty _) .nil), .base (.bl b), kit2 (b1 := false) (b2 := false) (by decide +kernel) (by decide +kernel) rfl, _, rfl, iteF ?_⟩⟩
      refine ⟨_, rfl, _, _, _, _, _, rfl, .ty _, .base (.bl b), kit_ty (b := "int") (r := true) (by decide +kernel), _, rfl, iteT ?_⟩
      refine ⟨_, rfl, _, _, _, _, _, rfl, .ty _, .base (.bl b), kit_ty (b := "int") (r := true) (by decide +kernel), _, rfl, iteT ?_⟩
      refine ⟨_, rfl, _, _, _, _, _, rfl, .ty _, .base (.bl b), kit_ty (b := "bool") (r := true) (by decide +kernel), _, rfl, _, _, _, _, _, rfl, .ty _, .base (.bl b), kit_ty (b := "bool") (r := true) (by decide +kernel), rfl, _, rfl, ifD_yes rfl ?_⟩
      refine ⟨_, rfl, _, rfl, rfl, ?_⟩
      show Q (V.bl (decide (V.bl b = V.bl b))) _
      rw [decide_eq_true rfl]
      exact k _ (new_ htp)
    | non _ =>
      refine ⟨_, pss_cons (ps_if (pt_val (pe_callB call_isiT (by rfl) T.isi boot_isi (pa_cons (pv 1) (pa_cons (pe_tup (pa_cons (pe_bltn (v := .ty "list") (by rfl) T.list_ boot_list' rfl) (pa_cons (pe_bltn (v := .ty "tuple") (by rfl) T.tup_ boot_tuple' rfl) pa_nil))) pa_nil)))) pss_never pss_nil)
      (pss_cons (ps_if (pt_val (pe_callB call_isi (by rfl) T.isi boot_isi (pa_cons (pv 1) (pa_cons (pe_bltn (v := .ty "int") (by rfl) T.int_ boot_int' rfl) pa_nil)))) pss_never pss_nil)
      (pss_one (ps_ret (pe_and (pe_cmpR op_eq (pv 0) (pv 1) (nomark _)) (pe_one (pe_cmpR op_is_bl (pe_callB call_isiT (by rfl) T.isi boot_isi (pa_cons (pv 0) (pa_cons (pe_tup (pa_cons (pe_bltn (v := .ty "int") (by rfl) T.int_ boot_int' rfl) (pa_cons (pe_bltn (v := .ty "list") (by rfl) T.list_ boot_list' rfl) (pa_cons (pe_bltn (v := .ty "tuple") (by rfl) T.tup_ boot_tuple' rfl) pa_nil)))) pa_nil))) pe_bl (nomark _))))))), ?_⟩
      refine ⟨_, rfl, by show 2 ≤ sizeLine; decide, fun tp htp => ⟨_, tp, _, _, [.type "list", .type "tuple"], _, rfl, upd_same, .cons (.ty _) (.cons (.ty _) .nil), .base .non, kit2 (b1 := false) (b2 := false) (by decide +kernel) (by decide +kernel) rfl, _, rfl, iteF ?_⟩⟩
      refine ⟨_, rfl, _, _, _, _, _, rfl, .ty _, .base .non, kit_ty (b := "int") (r := false) (by decide +kernel), _, rfl, iteF ?_⟩
      refine ⟨_, rfl, _, rfl, rfl, _, rfl, ifD_yes rfl ?_⟩
      refine ⟨_, rfl, by show 3 ≤ sizeLine; decide, fun tq htq => ⟨_, tq, _, _, [.type "int", .type "list", .type "tuple"], _, rfl, upd_same, .cons (.ty _) (.cons (.ty _) (.cons (.ty _) .nil)), .base .non, kit3 (by decide +kernel) (by decide +kernel) (by decide +kernel), _, _, rfl, rfl, ?_⟩⟩
      exact k _ ((new_ htp).trans (new_ htq))
    | str _ x =>
      refine ⟨_, pss_cons (ps_if (pt_val (pe_callB call_isiT (by rfl) T.isi boot_isi (pa_cons (pv 1) (pa_cons (pe_tup (pa_cons (pe_bltn (v := .ty "list") (by rfl) T.list_ boot_list' rfl) (pa_cons (pe_bltn (v := .ty "tuple") (by rfl) T.tup_ boot_tuple' rfl) pa_nil))) pa_nil)))) pss_never pss_nil)
      (pss_cons (ps_if (pt_val (pe_callB call_isi (by rfl) T.isi boot_isi (pa_cons (pv 1) (pa_cons (pe_bltn (v := .ty "int") (by rfl) T.int_ boot_int' rfl) pa_nil)))) pss_never pss_nil)
      (pss_one (ps_ret (pe_and (pe_cmpR op_eq (pv 0) (pv 1) (nomark _)) (pe_one (pe_cmpR op_is_bl (pe_callB call_isiT (by rfl) T.isi boot_isi (pa_cons (pv 0) (pa_cons (pe_tup (pa_cons (pe_bltn (v := .ty "int") (by rfl) T.int_ boot_int' rfl) (pa_cons (pe_bltn (v := .ty "list") (by rfl) T.list_ boot_list' rfl) (pa_cons (pe_bltn (v := .ty "tuple") (by rfl) T.tup_ boot_tuple' rfl) pa_nil)))) pa_nil))) pe_bl (nomark _))))))), ?_⟩
      refine ⟨_, rfl, by show 2 ≤ sizeLine; decide, fun tp htp => ⟨_, tp, _, _, [.type "list", .type "tuple"], _, rfl, upd_same, .cons (.ty _) (.cons (.ty _) .nil), .base (.str x), kit2 (b1 := false) (b2 := false) (by decide +kernel) (by decide +kernel) rfl, _, rfl, iteF ?_⟩⟩
      refine ⟨_, rfl, _, _, _, _, _, rfl, .ty _, .base (.str x), kit_ty (b := "int") (r := false) (by decide +kernel), _, rfl, iteF ?_⟩
      refine ⟨_, rfl, _, rfl, rfl, _, rfl, ifD_yes rfl ?_⟩
      refine ⟨_, rfl, by show 3 ≤ sizeLine; decide, fun tq htq => ⟨_, tq, _, _, [.type "int", .type "list", .type "tuple"], _, rfl, upd_same, .cons (.ty _) (.cons (.ty _) (.cons (.ty _) .nil)), .base (.str x), kit3 (by decide +kernel) (by decide +kernel) (by decide +kernel), _, _, rfl, rfl, ?_⟩⟩
      exact k _ ((new_ htp).trans (new_ htq))
    | @lst _ a b xs ys ha hb hl hsz hi =>
      refine ⟨_, pss_cons (ps_if (pt_val (pe_callB call_isiT (by rfl) T.isi boot_isi (pa_cons (pv 1) (pa_cons (pe_tup (pa_cons (pe_bltn (v := .ty "list") (by rfl) T.list_ boot_list' rfl) (pa_cons (pe_bltn (v := .ty "tuple") (by rfl) T.tup_ boot_tuple' rfl) pa_nil))) pa_nil))))
      (pss_cons (ps_if (PW.pt (pw_or (pt_cmpR op_ne (pe_callB call_isi (by rfl) T.isi boot_isi (pa_cons (pv 0) (pa_cons (pe_bltn (v := .ty "list") (by rfl) T.list_ boot_list' rfl) pa_nil))) (pe_callB call_isi (by rfl) T.isi boot_isi (pa_cons (pv 1) (pa_cons (pe_bltn (v := .ty "list") (by rfl) T.list_ boot_list' rfl) pa_nil))) (nomark _)) (pw_or1 (pt_cmpR op_ne (pe_callB call_isi (by rfl) T.isi boot_isi (pa_cons (pv 0) (pa_cons (pe_bltn (v := .ty "tuple") (by rfl) T.tup_ boot_tuple' rfl) pa_nil))) (pe_callB call_isi (by rfl) T.isi boot_isi (pa_cons (pv 1) (pa_cons (pe_bltn (v := .ty "tuple") (by rfl) T.tup_ boot_tuple' rfl) pa_nil))) (nomark _))))) pss_never pss_nil)
        (pss_one (ps_ret (pe_and (pe_cmpR op_eq (pe_callB call_len_seq (by rfl) T.len_ PySem.boot_len (pa_cons (pv 0) pa_nil)) (pe_callB call_len_seq (by rfl) T.len_ PySem.boot_len (pa_cons (pv 1) pa_nil)) (nomark _))
          (pe_one (pe_callB (cr_all rfl) (by rfl) T.all_ boot_all' (pa_cons (pe_lc (own := [("_law_one", 2), ("_law_other", 3)]) (g := gTup K 2 (gCons (gName 2) (gCons (gName 3) gNil))) (tt := tYes) (by rfl) scSame.nd (pi_zipA (by rfl) T.zip_ (pa_cons (pv 0) (pa_cons (pv 1) pa_nil))) (blkOk_by (N := ["_law_found", "_law_due", "_law_one", "_law_other"]) (sc := defScope sSame) (by decide +kernel))
            (fun _ _ _ _ _ => by exact pg_tup rfl (pgs_cons (pg_name (i := 2) scSame.nd rfl (Or.inl rfl)) (pgs_cons (pg_name (i := 3) scSame.nd rfl (Or.inl rfl)) pgs_nil))) (fun _ _ _ _ _ => pts_nil)
            (fun _ _ _ _ _ => pe_call ih hr rfl D.M D.F.kp D.B .nil pass0 (pa_cons (pv 2) (pa_cons (pv 3) pa_nil)))) pa_nil))))))) pss_nil) pss_never, ?_⟩
      refine ⟨_, rfl, by show 2 ≤ sizeLine; decide, fun tp htp => ?_⟩
      have s1 : Same H (upd H tp (.tup [.ty "list", .ty "tuple"])) := new_ htp
      have hA := s1 _ _ ha
      have hB := s1 _ _ hb
      refine ⟨_, tp, _, _, [.type "list", .type "tuple"], _, rfl, upd_same, .cons (.ty _) (.cons (.ty _) .nil), .base (.lst hB), kit2 (b1 := true) (b2 := false) (by decide +kernel) (by decide +kernel) rfl, _, rfl, iteT ?_⟩
      refine ⟨_, rfl, _, _, _, _, _, rfl, .ty _, .base (.lst hA), kit_ty (b := "list") (r := true) (by decide +kernel), _, rfl, _, _, _, _, _, rfl, .ty _, .base (.lst hB), kit_ty (b := "list") (r := true) (by decide +kernel), rfl, _, rfl, iteNS rfl ?_⟩
      refine ⟨_, rfl, _, _, _, _, _, rfl, .ty _, .base (.lst hA), kit_ty (b := "tuple") (r := false) (by decide +kernel), _, rfl, _, _, _, _, _, rfl, .ty _, .base (.lst hB), kit_ty (b := "tuple") (r := false) (by decide +kernel), rfl, _, rfl, iteNS rfl ?_⟩
      refine ⟨_, rfl, _, _, rfl, .inl (SqL.of hA), _, rfl, _, _, rfl, .inl (SqL.of hB), rfl, _, rfl, ifD_yes (by rw [hl]) ?_⟩
      refine ⟨_, rfl, _, rfl, _, _, xs, ys, rfl, .inl ⟨SqL.of hA, SqL.of hB, fun Dd hD => ?_⟩⟩
      refine lc_zipL hl (fun i H' => Same (upd H tp (.tup [.ty "list", .ty "tuple"])) H' ∧ H' Dd = some (.lst ((List.replicate i true).map V.bl))) ⟨new_ hD, upd_same⟩ (fun i H' q => ⟨SqL.of (q.1 _ _ hA), SqL.of (q.1 _ _ hB)⟩) ?_ ?_
      · rintro i x y tt H' hx hy ⟨sm, hd⟩ ht
        refine ⟨tt, _, rfl, SqT.of upd_same, rfl, _, _, rfl, _, _, rfl, rfl, rfl, ?_⟩
        dsimp only [tYes]
        rw [if_pos rfl]
        have s2 : Same H' (upd H' tt (.tup [x, y])) := new_ ht
        refine ⟨_, rfl, _, rfl, x, y, rfl, ((hi i x y hx hy).same s1).same (sm.trans s2), fun H2 s3 => ⟨_, s3 _ _ (s2 _ _ hd), ?_, ?_, ?_⟩⟩
        · rw [List.length_map, List.length_replicate]
          exact Nat.lt_of_lt_of_le (List.getElem?_eq_some_iff.mp hx).1 hsz
        · intro c o e
          rw [upd_ne (ne_of_none e hD)]
          exact s3 _ _ (s2 _ _ (sm _ _ e))
        · rw [upd_same, List.replicate_succ', List.map_append]
          rfl
      · rintro H' ⟨sm, hd⟩
        refine ⟨Dd, _, rfl, SqL.of hd, ?_⟩
        have ea : (List.replicate xs.length true).all id = true := by
          rw [List.all_eq_true]
          intro x hx
          rw [(List.mem_replicate.mp hx).2]
          rfl
        rw [ea]
        exact k _ (s1.trans sm)
    | @tup _ a b xs ys ha hb hl hsz hi =>
      refine ⟨_, pss_cons (ps_if (pt_val (pe_callB call_isiT (by rfl) T.isi boot_isi (pa_cons (pv 1) (pa_cons (pe_tup (pa_cons (pe_bltn (v := .ty "list") (by rfl) T.list_ boot_list' rfl) (pa_cons (pe_bltn (v := .ty "tuple") (by rfl) T.tup_ boot_tuple' rfl) pa_nil))) pa_nil))))
      (pss_cons (ps_if (PW.pt (pw_or (pt_cmpR op_ne (pe_callB call_isi (by rfl) T.isi boot_isi (pa_cons (pv 0) (pa_cons (pe_bltn (v := .ty "list") (by rfl) T.list_ boot_list' rfl) pa_nil))) (pe_callB call_isi (by rfl) T.isi boot_isi (pa_cons (pv 1) (pa_cons (pe_bltn (v := .ty "list") (by rfl) T.list_ boot_list' rfl) pa_nil))) (nomark _)) (pw_or1 (pt_cmpR op_ne (pe_callB call_isi (by rfl) T.isi boot_isi (pa_cons (pv 0) (pa_cons (pe_bltn (v := .ty "tuple") (by rfl) T.tup_ boot_tuple' rfl) pa_nil))) (pe_callB call_isi (by rfl) T.isi boot_isi (pa_cons (pv 1) (pa_cons (pe_bltn (v := .ty "tuple") (by rfl) T.tup_ boot_tuple' rfl) pa_nil))) (nomark _))))) pss_never pss_nil)
        (pss_one (ps_ret (pe_and (pe_cmpR op_eq (pe_callB call_len_seq (by rfl) T.len_ PySem.boot_len (pa_cons (pv 0) pa_nil)) (pe_callB call_len_seq (by rfl) T.len_ PySem.boot_len (pa_cons (pv 1) pa_nil)) (nomark _))
          (pe_one (pe_callB (cr_all rfl) (by rfl) T.all_ boot_all' (pa_cons (pe_lc (own := [("_law_one", 2), ("_law_other", 3)]) (g := gTup K 2 (gCons (gName 2) (gCons (gName 3) gNil))) (tt := tYes) (by rfl) scSame.nd (pi_zipA (by rfl) T.zip_ (pa_cons (pv 0) (pa_cons (pv 1) pa_nil))) (blkOk_by (N := ["_law_found", "_law_due", "_law_one", "_law_other"]) (sc := defScope sSame) (by decide +kernel))
            (fun _ _ _ _ _ => by exact pg_tup rfl (pgs_cons (pg_name (i := 2) scSame.nd rfl (Or.inl rfl)) (pgs_cons (pg_name (i := 3) scSame.nd rfl (Or.inl rfl)) pgs_nil))) (fun _ _ _ _ _ => pts_nil)
            (fun _ _ _ _ _ => pe_call ih hr rfl D.M D.F.kp D.B .nil pass0 (pa_cons (pv 2) (pa_cons (pv 3) pa_nil)))) pa_nil))))))) pss_nil) pss_never, ?_⟩
      refine ⟨_, rfl, by show 2 ≤ sizeLine; decide, fun tp htp => ?_⟩
      have s1 : Same H (upd H tp (.tup [.ty "list", .ty "tuple"])) := new_ htp
      have hA := SqT.up ha s1
      have hB := SqT.up hb s1
      refine ⟨_, tp, _, _, [.type "list", .type "tuple"], _, rfl, upd_same, .cons (.ty _) (.cons (.ty _) .nil), tyT hB, kit2 (b1 := false) (b2 := true) (by decide +kernel) (by decide +kernel) rfl, _, rfl, iteT ?_⟩
      refine ⟨_, rfl, _, _, _, _, _, rfl, .ty _, tyT hA, kit_ty (b := "list") (r := false) (by decide +kernel), _, rfl, _, _, _, _, _, rfl, .ty _, tyT hB, kit_ty (b := "list") (r := false) (by decide +kernel), rfl, _, rfl, iteNS rfl ?_⟩
      refine ⟨_, rfl, _, _, _, _, _, rfl, .ty _, tyT hA, kit_ty (b := "tuple") (r := true) (by decide +kernel), _, rfl, _, _, _, _, _, rfl, .ty _, tyT hB, kit_ty (b := "tuple") (r := true) (by decide +kernel), rfl, _, rfl, iteNS rfl ?_⟩
      refine ⟨_, rfl, _, _, rfl, .inr (hA), _, rfl, _, _, rfl, .inr (hB), rfl, _, rfl, ifD_yes (by rw [hl]) ?_⟩
      refine ⟨_, rfl, _, rfl, _, _, xs, ys, rfl, .inr ⟨hA, hB, fun Dd hD => ?_⟩⟩
      refine lc_zipT hl (fun i H' => Same (upd H tp (.tup [.ty "list", .ty "tuple"])) H' ∧ H' Dd = some (.lst ((List.replicate i true).map V.bl))) ⟨new_ hD, upd_same⟩ (fun i H' q => ⟨SqT.up hA q.1, SqT.up hB q.1⟩) ?_ ?_
      · rintro i x y tt H' hx hy ⟨sm, hd⟩ ht
        refine ⟨tt, _, rfl, SqT.of upd_same, rfl, _, _, rfl, _, _, rfl, rfl, rfl, ?_⟩
        dsimp only [tYes]
        rw [if_pos rfl]
        have s2 : Same H' (upd H' tt (.tup [x, y])) := new_ ht
        refine ⟨_, rfl, _, rfl, x, y, rfl, ((hi i x y hx hy).same s1).same (sm.trans s2), fun H2 s3 => ⟨_, s3 _ _ (s2 _ _ hd), ?_, ?_, ?_⟩⟩
        · rw [List.length_map, List.length_replicate]
          exact Nat.lt_of_lt_of_le (List.getElem?_eq_some_iff.mp hx).1 hsz
        · intro c o e
          rw [upd_ne (ne_of_none e hD)]
          exact s3 _ _ (s2 _ _ (sm _ _ e))
        · rw [upd_same, List.replicate_succ', List.map_append]
          rfl
      · rintro H' ⟨sm, hd⟩
        refine ⟨Dd, _, rfl, SqL.of hd, ?_⟩
        have ea : (List.replicate xs.length true).all id = true := by
          rw [List.all_eq_true]
          intro x hx
          rw [(List.mem_replicate.mp hx).2]
          rfl
        rw [ea]
        exact k _ (s1.trans sm)
end
end PA

set_option maxHeartbeats 4000000
namespace PA
open PySem L2 RZ
open C8 (pss_cut tCut)
abbrev tx (ss : List Str) : List V := ss.map V.str
theorem tx_flat (ss : List Str) : (tx ss).all flatV = true := by
  rw [List.all_eq_true]
  intro x hx
  obtain ⟨z, _, rfl⟩ := List.mem_map.mp hx
  rfl
theorem eqV_str (a b : Str) : eqV (.str a) (.str b) = decide (a = b) := by
  show (a == b) = decide (a = b)
  rw [Bool.eq_iff_iff]
  simp
theorem inV_tx (s : Str) (ss : List Str) : inV (.str s) (tx ss) = decide (s ∈ ss) := by
  unfold inV
  rw [Bool.eq_iff_iff, List.any_eq_true]
  simp only [decide_eq_true_eq]
  constructor
  · rintro ⟨x, hx, e⟩
    obtain ⟨z, hz, rfl⟩ := List.mem_map.mp hx
    rw [eqV_str, decide_eq_true_eq] at e
    rw [← e]
    exact hz
  · intro h
    exact ⟨.str s, List.mem_map.mpr ⟨s, h, rfl⟩, by rw [eqV_str, decide_eq_true_eq]⟩
def fR (N : Addr) (c : Int) : List (Str × V) := putF "cost" (.int c) (putF "names" (.ref N) [])
theorem nc_ : ¬ (("names" : Str) = "cost") := by decide +kernel
theorem fR_names (N : Addr) (c : Int) : (fR N c).lookup ("names" : Str) = some (.ref N) := by
  unfold fR
  rw [lookup_putF, if_neg nc_, lookup_putF, if_pos rfl]
theorem fR_cost (N : Addr) (c : Int) : (fR N c).lookup ("cost" : Str) = some (.int c) := by
  unfold fR
  rw [lookup_putF, if_pos rfl]
structure TxR (K : PySem.W.Frag) (C : Addr) : Prop where
  cl : Cls K C
  nN : NoAttr K C "names"
  nC : NoAttr K C "cost"
/-- a rival: the list of its names, its cost -/
def RivAt (C : Addr) (H : Hp) (p dx N : Addr) (ss : List Str) (c : Int) : Prop := H p = some (.ins C dx (fR N c)) ∧ H N = some (.lst (tx ss)) ∧ ss.Nodup ∧ ss.length ≤ 60
def spInitR (K : PySem.W.Frag) (C : Addr) : Sp := fun vs H Q _ => ∃ (p dx G : Addr) (ss : List Str), vs = [.ref p, .ref G] ∧ H p = some (.ins C dx []) ∧ Sq K H G (tx ss) ∧ ss.Nodup ∧ ss.length ≤ 60 ∧
  ∀ N H', RivAt C H' p dx N ss 0 → (∀ c o, H c = some o → c ≠ p → H' c = some o) → H N = none → Q .non H'
def spOrder (C : Addr) : Sp := fun vs H Q _ => ∃ (p dx N : Addr) (ss : List Str) (c : Int), vs = [.ref p] ∧ RivAt C H p dx N ss c ∧ ∀ q, H q = none → Q (.ref q) (upd H q (.lst (tx ss)))
def spHas (C : Addr) : Sp := fun vs H Q _ => ∃ (p dx N : Addr) (ss : List Str) (c : Int) (s : Str), vs = [.ref p, .str s] ∧ RivAt C H p dx N ss c ∧ Q (.bl (decide (s ∈ ss))) H
def spLen (C : Addr) : Sp := fun vs H Q _ => ∃ (p dx N : Addr) (ss : List Str) (c : Int), vs = [.ref p] ∧ RivAt C H p dx N ss c ∧ Q (.int (ss.length : Nat)) H
def spPlace (C : Addr) : Sp := fun vs H Q _ => ∃ (p dx N : Addr) (ss : List Str) (c : Int) (s : Str) (j : Nat), vs = [.ref p, .str s] ∧ RivAt C H p dx N ss c ∧ ss[j]? = some s ∧ Q (.int (j : Nat)) H
def spDrop (C : Addr) : Sp := fun vs H Q _ => ∃ (p dx N : Addr) (ss : List Str) (c : Int) (s : Str) (j : Nat), vs = [.ref p, .str s] ∧ RivAt C H p dx N ss c ∧ ss[j]? = some s ∧ Q .non (upd H N (.lst (tx (ss.eraseIdx j))))
def spPut (C : Addr) : Sp := fun vs H Q _ => ∃ (p dx N : Addr) (ss : List Str) (c : Int) (s : Str) (j : Nat), vs = [.ref p, .str s, .int (j : Nat)] ∧ RivAt C H p dx N ss c ∧ s ∉ ss ∧ j ≤ ss.length ∧ Q .non (upd H N (.lst (tx (ss.take j ++ [s] ++ ss.drop j))))
def spExch (C : Addr) : Sp := fun vs H Q _ => ∃ (p dx N : Addr) (ss : List Str) (c : Int) (j : Nat) (s t : Str), vs = [.ref p, .int (j : Nat)] ∧ RivAt C H p dx N ss c ∧ ss[j]? = some s ∧ ss[j + 1]? = some t ∧ ∀ H0, Same H H0 → Q .non (upd (upd H0 N (.lst (tx ((ss.set j t).set (j + 1) s)))) p (.ins C dx (fR N (c + 1))))
def spCallR (C : Addr) : Sp := fun vs H Q _ => ∃ (p dx N : Addr) (ss : List Str) (c : Int) (s : Str) (j : Nat) (to : V), vs = [.ref p, .str s, to] ∧ RivAt C H p dx N ss c ∧ ss[j]? = some s ∧
  ((to = .non ∧ Q .non (upd H p (.ins C dx (fR N (c + j))))) ∨ ∃ t : Nat, to = .int (t : Nat) ∧ t ≤ j ∧ Q .non (upd (upd H N (.lst (tx ((ss.eraseIdx j).take t ++ [s] ++ (ss.eraseIdx j).drop t)))) p (.ins C dx (fR N (c + j)))))
section
variable {P : Program} {w : World} {K : PySem.W.Frag} {mg : Str → Option Value} {base : Heap} {C : Addr}
theorem scOrder : FnScope ["self"] ["self"] (defScope sOrder) := ⟨rfl, rfl, rfl, by decide +kernel, rfl, by decide +kernel, by decide +kernel⟩
theorem ok_order {f : Addr} {fd : FuncData} (F : Fun K "order" "Rival.order" sOrder f fd) (T : Txt K mg) (R : TxR K C) : FnOk P w K mg base CX0 1 f fd ["self"] (spOrder C) := by
  refine F.ok scOrder (fun vs H Q E h => ?_) (fun cdv A outer s H vs Q E hr h => ?_)
  · obtain ⟨p, _, _, _, _, rfl, _⟩ := h
    rfl
  · obtain ⟨p, dx, N, ss, c, rfl, ⟨hp, hN, nd, l20⟩, kk⟩ := h
    refine ⟨_, pss_one (ps_ret (pe_callTy call_list_of (by rfl) T.list_ boot_list' (pa_cons (pe_fld (pv 0) rfl) pa_nil))), ?_⟩
    exact ⟨_, rfl, p, C, dx, _, _, rfl, hp, R.cl, R.nN, fR_names _ _, N, _, rfl, .inl (SqL.of hN), kk⟩
theorem scHas : FnScope ["self", "name"] ["self", "name"] (defScope sHas) := ⟨rfl, rfl, rfl, by decide +kernel, rfl, by decide +kernel, by decide +kernel⟩
theorem ok_has {f : Addr} {fd : FuncData} (F : Fun K "__contains__" "Rival.__contains__" sHas f fd) (T : Txt K mg) (R : TxR K C) : FnOk P w K mg base CX0 1 f fd ["self", "name"] (spHas C) := by
  refine F.ok scHas (fun vs H Q E h => ?_) (fun cdv A outer s H vs Q E hr h => ?_)
  · obtain ⟨p, _, _, _, _, _, rfl, _⟩ := h
    rfl
  · obtain ⟨p, dx, N, ss, c, s, rfl, ⟨hp, hN, nd, l20⟩, kk⟩ := h
    refine ⟨_, pss_one (ps_ret (pe_cmpR op_in_seq (pv 1) (pe_fld (pv 0) rfl) rfl)), ?_⟩
    refine ⟨_, rfl, _, rfl, p, C, dx, _, _, rfl, hp, R.cl, R.nN, fR_names _ _, N, _, rfl, .inl (SqL.of hN), rfl, tx_flat _, ?_⟩
    show Q (.bl (inV (.str s) (tx ss))) H
    rw [inV_tx]
    exact kk
theorem scLen : FnScope ["self"] ["self"] (defScope sLen) := ⟨rfl, rfl, rfl, by decide +kernel, rfl, by decide +kernel, by decide +kernel⟩
theorem ok_len {f : Addr} {fd : FuncData} (F : Fun K "__len__" "Rival.__len__" sLen f fd) (T : Txt K mg) (R : TxR K C) : FnOk P w K mg base CX0 1 f fd ["self"] (spLen C) := by
  refine F.ok scLen (fun vs H Q E h => ?_) (fun cdv A outer s H vs Q E hr h => ?_)
  · obtain ⟨p, _, _, _, _, rfl, _⟩ := h
    rfl
  · obtain ⟨p, dx, N, ss, c, rfl, ⟨hp, hN, nd, l20⟩, kk⟩ := h
    refine ⟨_, pss_one (ps_ret (pe_callB call_len_seq (by rfl) T.len_ PySem.boot_len (pa_cons (pe_fld (pv 0) rfl) pa_nil))), ?_⟩
    refine ⟨_, rfl, p, C, dx, _, _, rfl, hp, R.cl, R.nN, fR_names _ _, N, _, rfl, .inl (SqL.of hN), ?_⟩
    rw [List.length_map]
    exact kk
theorem scPlace : FnScope ["self", "name"] ["self", "name"] (defScope sPlace) := ⟨rfl, rfl, rfl, by decide +kernel, rfl, by decide +kernel, by decide +kernel⟩
theorem idx_ok {ss : List Str} {s : Str} {j : Nat} (nd : ss.Nodup) (h : ss[j]? = some s) : (tx ss)[j]? = some (.str s) ∧ eqV (.str s) (.str s) = true ∧ ∀ (m : Nat) (z' : V), m < j → (tx ss)[m]? = some z' → eqV z' (.str s) = false := by
  refine ⟨by rw [List.getElem?_map, h]; rfl, by rw [eqV_str, decide_eq_true rfl], fun m z' hm hz => ?_⟩
  rw [List.getElem?_map, Option.map_eq_some_iff] at hz
  obtain ⟨z, hz, rfl⟩ := hz
  rw [eqV_str, decide_eq_false_iff_not]
  rintro rfl
  have h1 := (List.getElem?_eq_some_iff.mp hz)
  have h2 := (List.getElem?_eq_some_iff.mp h)
  obtain ⟨l1, e1⟩ := h1
  obtain ⟨l2, e2⟩ := h2
  exact List.pairwise_iff_getElem.mp nd m j l1 l2 hm (by rw [e1, e2])
theorem ok_place {f : Addr} {fd : FuncData} (F : Fun K "_place" "Rival._place" sPlace f fd) (T : Txt K mg) (R : TxR K C) : FnOk P w K mg base CX0 1 f fd ["self", "name"] (spPlace C) := by
  refine F.ok scPlace (fun vs H Q E h => ?_) (fun cdv A outer s H vs Q E hr h => ?_)
  · obtain ⟨p, _, _, _, _, _, _, rfl, _⟩ := h
    rfl
  · obtain ⟨p, dx, N, ss, c, s, j, rfl, ⟨hp, hN, nd, l20⟩, hj, kk⟩ := h
    refine ⟨_, pss_cons (ps_if (pt_cmpR op_notIn_seq (pv 1) (pe_fld (pv 0) rfl) rfl) pss_never pss_nil)
      (pss_one (ps_ret (pe_bm PySem.F.plainAttrs_list PySem.F.slot_list_index PySem.F.type_list_index mt_index (pe_fld (pv 0) rfl) (pa_cons (pv 1) pa_nil)))), ?_⟩
    refine ⟨_, rfl, _, rfl, p, C, dx, _, _, rfl, hp, R.cl, R.nN, fR_names _ _, N, _, rfl, .inl (SqL.of hN), rfl, tx_flat _, _, rfl, ?_⟩
    show ite ((!inV (.str s) (tx ss)) = true) _ _
    rw [inV_tx, decide_eq_true (List.mem_of_getElem? hj)]
    refine iteF ?_
    obtain ⟨i1, i2, i3⟩ := idx_ok nd hj
    exact ⟨_, rfl, p, C, dx, _, _, rfl, hp, R.cl, R.nN, fR_names _ _, .inl ⟨rfl, _, SqL.of hN⟩, _, rfl, N, _, _, j, _, rfl, rfl, SqL.of hN, rfl, tx_flat _, i1, i2, i3, kk⟩
theorem tx_erase (ss : List Str) (j : Nat) : (tx ss).eraseIdx j = tx (ss.eraseIdx j) := by
  rw [List.eraseIdx_eq_take_drop_succ, List.eraseIdx_eq_take_drop_succ]
  simp [tx, List.map_take, List.map_drop]
theorem scDrop : FnScope ["self", "name"] ["self", "name"] (defScope sDrop) := ⟨rfl, rfl, rfl, by decide +kernel, rfl, by decide +kernel, by decide +kernel⟩
theorem seqIdx_nat {j n : Nat} (h : j < n) : seqIndex? ((j : Nat) : Int) n = some j := by
  unfold seqIndex?
  have e : ¬ (j : Int) < 0 := by omega
  have e2 : (j : Int) < (n : Int) := by omega
  simp [e, e2, h]
theorem ok_drop {f g : Addr} {fd gd : FuncData} (F : Fun K "drop" "Rival.drop" sDrop f fd) (T : Txt K mg) (R : TxR K C) (F1 : Fun K "_place" "Rival._place" sPlace g gd) (b1 : Binds K gd ["self", "name"] []) (m1 : Meth K C "_place" g) : FnOk P w K mg base CX0 2 f fd ["self", "name"] (spDrop C) := by
  have G : FnOk P w K mg base CX0 1 g gd ["self", "name"] (spPlace C) := ok_place F1 T R
  refine F.ok scDrop (fun vs H Q E h => ?_) (fun cdv A outer s H vs Q E hr h => ?_)
  · obtain ⟨p, _, _, _, _, _, _, rfl, _⟩ := h
    rfl
  · obtain ⟨p, dx, N, ss, c, s, j, rfl, hv, hj, kk⟩ := h
    obtain ⟨hp, hN, nd, l20⟩ := id hv
    have hjl := (List.getElem?_eq_some_iff.mp hj).1
    refine ⟨_, pss_one (ps_expr (pe_bm PySem.F.plainAttrs_list PySem.F.slot_list_pop PySem.F.type_list_pop mt_popAt (pe_fld (pv 0) rfl) (pa_cons (pe_meth (E := E0) (pv 0) R.cl m1 G hr b1 .nil pass0 (pa_cons (pv 1) pa_nil)) pa_nil))), ?_⟩
    refine ⟨_, rfl, p, C, dx, _, _, rfl, hp, R.cl, R.nN, fR_names _ _, .inl ⟨rfl, _, SqL.of hN⟩, _, rfl, p, dx, _, rfl, hp, by unfold fR; rw [lookup_putF, if_neg (by decide +kernel), lookup_putF, if_neg (by decide +kernel)]; rfl, _, rfl, p, dx, N, ss, c, s, j, rfl, hv, hj, ?_⟩
    refine ⟨N, tx ss, (j : Nat), j, .str s, rfl, rfl, hN, by omega, by omega, ?_, by rw [List.getElem?_map, hj]; rfl, ?_⟩
    · rw [List.length_map]
      exact seqIdx_nat hjl
    · have e : (tx ss).eraseIdx j = tx (ss.eraseIdx j) := tx_erase ss j
      rw [e]
      exact kk
theorem scPut : FnScope ["self", "name", "at"] ["self", "name", "at"] (defScope sPut) := ⟨rfl, rfl, rfl, by decide +kernel, rfl, by decide +kernel, by decide +kernel⟩
theorem ok_put {f : Addr} {fd : FuncData} (F : Fun K "put" "Rival.put" sPut f fd) (T : Txt K mg) (R : TxR K C) : FnOk P w K mg base CX0 1 f fd ["self", "name", "at"] (spPut C) := by
  refine F.ok scPut (fun vs H Q E h => ?_) (fun cdv A outer s H vs Q E hr h => ?_)
  · obtain ⟨p, _, _, _, _, _, _, rfl, _⟩ := h
    rfl
  · obtain ⟨p, dx, N, ss, c, s, j, rfl, ⟨hp, hN, nd, l20⟩, hs, hj, kk⟩ := h
    refine ⟨_, pss_cons (ps_if (pt_cmpR op_in_seq (pv 1) (pe_fld (pv 0) rfl) rfl) pss_never pss_nil)
      (pss_cons (ps_if (pt_not (pt_chain op_le op_le pe_int (pv 2) (pe_callB call_len_seq (by rfl) T.len_ PySem.boot_len (pa_cons (pe_fld (pv 0) rfl) pa_nil)))) pss_never pss_nil)
      (pss_one (ps_expr (pe_bm PySem.F.plainAttrs_list PySem.F.slot_list_insert PySem.F.type_list_insert mt_insert (pe_fld (pv 0) rfl) (pa_cons (pv 2) (pa_cons (pv 1) pa_nil)))))), ?_⟩
    refine ⟨_, rfl, _, rfl, p, C, dx, _, _, rfl, hp, R.cl, R.nN, fR_names _ _, N, _, rfl, .inl (SqL.of hN), rfl, tx_flat _, _, rfl, ?_⟩
    show ite ((inV (.str s) (tx ss)) = true) _ _
    rw [inV_tx, decide_eq_false hs]
    refine iteF ?_
    refine ⟨_, rfl, _, _, rfl, rfl, _, rfl, ifD_yes (by omega) ⟨_, rfl, p, C, dx, _, _, rfl, hp, R.cl, R.nN, fR_names _ _, N, _, rfl, .inl (SqL.of hN), ?_⟩⟩
    rw [List.length_map]
    refine ⟨_, _, rfl, rfl, _, rfl, ?_⟩
    rw [decide_eq_true (by omega : ((j : Nat) : Int) ≤ ((ss.length : Nat) : Int))]
    refine iteF ?_
    refine ⟨_, rfl, p, C, dx, _, _, rfl, hp, R.cl, R.nN, fR_names _ _, .inl ⟨rfl, _, SqL.of hN⟩, _, rfl, _, rfl, N, tx ss, (j : Nat), .str s, rfl, rfl, hN, ?_, by omega, by omega, ?_⟩
    · rw [List.length_map]
      exact Nat.lt_of_le_of_lt l20 (by decide)
    · have e : (tx ss).take ((j : Nat) : Int).toNat ++ [V.str s] ++ (tx ss).drop ((j : Nat) : Int).toNat = tx (ss.take j ++ [s] ++ ss.drop j) := by
        rw [Int.toNat_natCast]
        simp [tx]
      rw [e]
      exact kk
theorem putF_fR (N : Addr) (c d : Int) : putF "cost" (.int d) (fR N c) = fR N d := by
  rfl
theorem fR_no (N : Addr) (c : Int) {m : Str} (h1 : ¬ m = "cost") (h2 : ¬ m = "names") : (fR N c).lookup m = none := by
  unfold fR
  rw [lookup_putF, if_neg h1, lookup_putF, if_neg h2]
  rfl
theorem scExch : FnScope ["self", "at"] ["self", "at"] (defScope sExch) := ⟨rfl, rfl, rfl, by decide +kernel, rfl, by decide +kernel, by decide +kernel⟩
theorem ok_exch {f : Addr} {fd : FuncData} (F : Fun K "exchange" "Rival.exchange" sExch f fd) (T : Txt K mg) (R : TxR K C) : FnOk P w K mg base CX0 1 f fd ["self", "at"] (spExch C) := by
  refine F.ok scExch (fun vs H Q E h => ?_) (fun cdv A outer s H vs Q E hr h => ?_)
  · obtain ⟨p, _, _, _, _, _, _, _, rfl, _⟩ := h
    rfl
  · obtain ⟨p, dx, N, ss, c, j, s, t, rfl, ⟨hp, hN, nd, l20⟩, hs, ht, kk⟩ := h
    have jl := (List.getElem?_eq_some_iff.mp ht).1
    have pN : p ≠ N := ne_of hp hN (by intro z; cases z)
    refine ⟨_, pss_cons (ps_if (pt_not (pt_chain op_le op_lt pe_int (pv 1) (pe_op op_sub (pe_callB call_len_seq (by rfl) T.len_ PySem.boot_len (pa_cons (pe_fld (pv 0) rfl) pa_nil)) pe_int))) pss_never pss_nil)
      (pss_cons (ps_asg (pe_tup (pa_cons (pe_ix ix_list (pe_fld (pv 0) rfl) (pe_op op_add (pv 1) pe_int) (fun _ _ => rfl)) (pa_cons (pe_ix ix_list (pe_fld (pv 0) rfl) (pv 1) (fun _ _ => rfl)) pa_nil)))
        (pg_tup rfl (pgs_cons (pg_sub (pe_fld (pv 0) rfl) (pv 1) set_list) (pgs_cons (pg_sub (pe_fld (pv 0) rfl) (pe_op op_add (pv 1) pe_int) set_list) pgs_nil))))
      (pss_one (ps_fldaug (pv 0) pe_int in_add))), ?_⟩
    refine ⟨_, rfl, _, _, rfl, rfl, _, rfl, ifD_yes (by omega) ⟨_, rfl, p, C, dx, _, _, rfl, hp, R.cl, R.nN, fR_names _ _, N, _, rfl, .inl (SqL.of hN), ?_⟩⟩
    rw [List.length_map]
    refine ⟨_, _, rfl, rfl, _, _, rfl, rfl, _, rfl, ?_⟩
    rw [decide_eq_true (by omega : ((j : Nat) : Int) < ((ss.length : Nat) : Int) - 1)]
    refine iteF ?_
    have a1 : atI (tx ss) (((j : Nat) : Int) + 1) = some (.str t) := atI_nat (i := j + 1) (by rw [List.getElem?_map, ht]; rfl)
    have a0 : atI (tx ss) ((j : Nat) : Int) = some (.str s) := atI_nat (by rw [List.getElem?_map, hs]; rfl)
    refine ⟨_, rfl, p, C, dx, _, _, rfl, hp, R.cl, R.nN, fR_names _ _, _, rfl, _, _, rfl, rfl, N, _, _, _, rfl, rfl, SqL.of hN, a1, ?_⟩
    refine ⟨_, rfl, p, C, dx, _, _, rfl, hp, R.cl, R.nN, fR_names _ _, _, rfl, N, _, _, _, rfl, rfl, SqL.of hN, a0, ?_⟩
    refine ⟨by show 2 ≤ sizeLine; decide, fun tp htp => ?_⟩
    have etp := new_ (o := .tup [V.str t, .str s]) htp
    have gtp : (upd H tp (.tup [V.str t, .str s])) tp = some (.tup [V.str t, .str s]) := upd_same
    have kk := kk _ etp
    have hN := etp _ _ hN
    have hp := etp _ _ hp
    generalize (upd H tp (.tup [V.str t, .str s])) = H1 at gtp kk hN hp ⊢
    refine ⟨tp, _, rfl, SqT.of gtp, rfl, _, _, rfl, ?_⟩
    refine ⟨_, rfl, p, C, dx, _, _, rfl, hp, R.cl, R.nN, fR_names _ _, _, rfl, N, _, _, j, rfl, rfl, hN, Evl.ixN_nat (by rw [List.length_map]; omega), ?_⟩
    have e1 : (tx ss).set j (.str t) = tx (ss.set j t) := List.map_set.symm
    rw [e1]
    have hN1 : (upd H1 N (.lst (tx (ss.set j t)))) N = some (.lst (tx (ss.set j t))) := upd_same
    have hp1 : (upd H1 N (.lst (tx (ss.set j t)))) p = some (.ins C dx (fR N c)) := by rw [upd_ne pN]; exact hp
    refine ⟨_, _, rfl, ?_⟩
    refine ⟨_, rfl, p, C, dx, _, _, rfl, hp1, R.cl, R.nN, fR_names _ _, _, rfl, _, _, rfl, rfl, N, _, _, j + 1, rfl, rfl, hN1, ?_, ?_⟩
    · have := Evl.ixN_nat (n := (tx (ss.set j t)).length) (j := j + 1) (by rw [List.length_map, List.length_set]; exact jl)
      exact this
    have e2 : (tx (ss.set j t)).set (j + 1) (.str s) = tx ((ss.set j t).set (j + 1) s) := List.map_set.symm
    rw [e2, upd_upd]
    have hp2 : (upd H1 N (.lst (tx ((ss.set j t).set (j + 1) s)))) p = some (.ins C dx (fR N c)) := by rw [upd_ne pN]; exact hp
    exact ⟨rfl, _, rfl, p, C, dx, _, _, rfl, hp2, R.cl, R.nC, fR_cost _ _, _, _, rfl, rfl, dx, fR N c, hp2, (by show 2 < 1000; decide), kk⟩
theorem scCallR : FnScope ["self", "name", "to", "place"] ["self", "name", "to"] (defScope sCall) := ⟨rfl, rfl, rfl, by decide +kernel, rfl, by decide +kernel, by decide +kernel⟩
abbrev FunC (K : PySem.W.Frag) (f : Addr) (fd : FuncData) : Prop := FunD K "call" "Rival.call" (defArgs sCall) (defBody sCall) (defScope sCall) [V.non] [] f fd
theorem ok_callR {f g : Addr} {fd gd : FuncData} (F : FunC K f fd) (T : Txt K mg) (R : TxR K C) (F1 : Fun K "_place" "Rival._place" sPlace g gd) (b1 : Binds K gd ["self", "name"] []) (m1 : Meth K C "_place" g) : FnOk P w K mg base CX0 2 f fd ["self", "name", "to"] (spCallR C) := by
  have G : FnOk P w K mg base CX0 1 g gd ["self", "name"] (spPlace C) := ok_place F1 T R
  refine F.ok scCallR (fun vs H Q E h => ?_) (fun cdv A outer s H vs Q E hr h => ?_)
  · obtain ⟨p, _, _, _, _, _, _, _, rfl, _⟩ := h
    rfl
  · obtain ⟨p, dx, N, ss, c, s, j, to, rfl, hv, hj, hto⟩ := h
    obtain ⟨hp, hN, nd, l20⟩ := id hv
    have jl := (List.getElem?_eq_some_iff.mp hj).1
    have pN : p ≠ N := ne_of hp hN (by intro z; cases z)
    refine ⟨_, pss_cons (ps_set (i := 3) scCallR.nd rfl (Or.inl rfl) (pe_meth (E := E0) (pv 0) R.cl m1 G hr b1 .nil pass0 (pa_cons (pv 1) pa_nil)))
      (pss_cons (ps_if (pt_cmpR op_notN (pv 2) pe_non (nomark _)) (pss_cons (ps_if (pt_not (pt_chain op_le op_le pe_int (pv 2) (pv 3))) pss_never pss_nil)
        (pss_cons (ps_expr (pe_bm PySem.F.plainAttrs_list PySem.F.slot_list_pop PySem.F.type_list_pop mt_popAt (pe_fld (pv 0) rfl) (pa_cons (pv 3) pa_nil)))
        (pss_one (ps_expr (pe_bm PySem.F.plainAttrs_list PySem.F.slot_list_insert PySem.F.type_list_insert mt_insert (pe_fld (pv 0) rfl) (pa_cons (pv 2) (pa_cons (pv 1) pa_nil))))))) pss_nil)
      (pss_one (ps_fldaug (pv 0) (pv 3) in_add))), ?_⟩
    refine ⟨_, rfl, p, dx, _, rfl, hp, fR_no _ _ (by decide +kernel) (by decide +kernel), _, rfl, p, dx, N, ss, c, s, j, rfl, hv, hj, ?_⟩
    rcases hto with ⟨rfl, kk⟩ | ⟨t, rfl, htj, kk⟩
    · refine ⟨_, rfl, rfl, _, rfl, iteF ?_⟩
      exact ⟨_, rfl, p, C, dx, _, _, rfl, hp, R.cl, R.nC, fR_cost _ _, _, rfl, _, _, rfl, rfl, dx, fR N c, hp, (by show 2 < 1000; decide), kk⟩
    · refine ⟨_, rfl, rfl, _, rfl, iteT ?_⟩
      refine ⟨_, rfl, _, _, rfl, rfl, _, rfl, ifD_yes (by omega) ⟨_, rfl, _, _, rfl, rfl, _, rfl, ?_⟩⟩
      rw [decide_eq_true (by omega : ((t : Nat) : Int) ≤ ((j : Nat) : Int))]
      refine iteF ?_
      refine ⟨_, rfl, p, C, dx, _, _, rfl, hp, R.cl, R.nN, fR_names _ _, .inl ⟨rfl, _, SqL.of hN⟩, _, rfl, N, tx ss, (j : Nat), j, .str s, rfl, rfl, hN, by omega, by omega, by rw [List.length_map]; exact seqIdx_nat jl, by rw [List.getElem?_map, hj]; rfl, ?_⟩
      rw [tx_erase]
      have hN1 : (upd H N (.lst (tx (ss.eraseIdx j)))) N = some (.lst (tx (ss.eraseIdx j))) := upd_same
      have hp1 : (upd H N (.lst (tx (ss.eraseIdx j)))) p = some (.ins C dx (fR N c)) := by rw [upd_ne pN]; exact hp
      refine ⟨_, rfl, p, C, dx, _, _, rfl, hp1, R.cl, R.nN, fR_names _ _, .inl ⟨rfl, _, SqL.of hN1⟩, _, rfl, _, rfl, N, tx (ss.eraseIdx j), (t : Nat), .str s, rfl, rfl, hN1, ?_, by omega, by omega, ?_⟩
      · rw [List.length_map]
        exact Nat.lt_of_le_of_lt (Nat.le_trans (List.length_eraseIdx_le ..) l20) (by decide)
      · have e : (tx (ss.eraseIdx j)).take ((t : Nat) : Int).toNat ++ [V.str s] ++ (tx (ss.eraseIdx j)).drop ((t : Nat) : Int).toNat = tx ((ss.eraseIdx j).take t ++ [s] ++ (ss.eraseIdx j).drop t) := by
          rw [Int.toNat_natCast]
          simp [tx]
        rw [e]
        have hp2 : (upd (upd H N (.lst (tx (ss.eraseIdx j)))) N (.lst (tx ((ss.eraseIdx j).take t ++ [s] ++ (ss.eraseIdx j).drop t)))) p = some (.ins C dx (fR N c)) := by rw [upd_ne pN]; exact hp1
        refine ⟨_, rfl, p, C, dx, _, _, rfl, hp2, R.cl, R.nC, fR_cost _ _, _, rfl, _, _, rfl, rfl, dx, fR N c, hp2, (by show 2 < 1000; decide), ?_⟩
        rw [upd_upd]
        exact kk
theorem scInitR : FnScope ["self", "names"] ["self", "names"] (defScope sInit) := ⟨rfl, rfl, rfl, by decide +kernel, rfl, by decide +kernel, by decide +kernel⟩
theorem ok_initR {f : Addr} {fd : FuncData} (F : Fun K "__init__" "Rival.__init__" sInit f fd) (T : Txt K mg) (R : TxR K C) : FnOk P w K mg base CX0 1 f fd ["self", "names"] (spInitR K C) := by
  refine F.ok scInitR (fun vs H Q E h => ?_) (fun cdv A outer s H vs Q E hr h => ?_)
  · obtain ⟨p, _, _, _, rfl, _⟩ := h
    rfl
  · obtain ⟨p, dx, G, ss, rfl, hp, hG, nd, l20, kk⟩ := h
    refine ⟨_, pss_cons (ps_fld (pv 0) (pe_callTy call_list_of (by rfl) T.list_ boot_list' (pa_cons (pv 1) pa_nil)) rfl)
      (pss_one (ps_fld (pv 0) pe_int rfl)), ?_⟩
    refine ⟨_, rfl, G, _, rfl, hG, fun N hN => ?_⟩
    have pN : p ≠ N := ne_of_none hp hN
    have hp1 : (upd H N (.lst (tx ss))) p = some (.ins C dx []) := by rw [upd_ne pN]; exact hp
    refine ⟨_, rfl, p, C, dx, _, rfl, hp1, R.cl, R.nN, (by show 0 < 1000; decide), ?_⟩
    refine ⟨_, rfl, p, C, dx, _, rfl, upd_same, R.cl, R.nC, (by show 1 < 1000; decide), ?_⟩
    refine kk N _ ⟨upd_same, ?_, nd, l20⟩ (fun c' o e ne => ?_) hN
    · rw [upd_ne pN.symm, upd_ne pN.symm]
      exact upd_same
    · rw [upd_ne ne, upd_ne ne, upd_ne (ne_of_none e hN)]
      exact e
end
end PA

set_option maxHeartbeats 1000000
namespace PA
open PySem L2 RZ
section
variable {α : Type} {ss : List α} {s t : α} {j : Nat}
theorem split_at (h : ss[j]? = some s) : ss = ss.take j ++ s :: ss.drop (j + 1) := by
  obtain ⟨hl, e⟩ := List.getElem?_eq_some_iff.mp h
  have := List.take_append_drop j ss
  rw [List.drop_eq_getElem_cons hl, e] at this
  exact this.symm
theorem erase_at : ss.eraseIdx j = ss.take j ++ ss.drop (j + 1) := List.eraseIdx_eq_take_drop_succ ..
theorem perm_erase (h : ss[j]? = some s) : (s :: ss.eraseIdx j).Perm ss := by
  have e := split_at h
  rw [erase_at]
  have p := (List.perm_middle (l₁ := ss.take j) (l₂ := ss.drop (j + 1)) (a := s)).symm
  rw [← e] at p
  exact p
theorem nodup_erase (nd : ss.Nodup) : (ss.eraseIdx j).Nodup := List.Nodup.sublist (List.eraseIdx_sublist ..) nd
theorem put_nodup (nd : ss.Nodup) (h : s ∉ ss) : (ss.take j ++ [s] ++ ss.drop j).Nodup := by
  rw [List.append_assoc, List.singleton_append]
  refine (List.perm_middle (a := s)).nodup_iff.mpr ?_
  rw [List.take_append_drop]
  exact List.nodup_cons.mpr ⟨h, nd⟩
theorem move_nodup (nd : ss.Nodup) (h : ss[j]? = some s) (i : Nat) : ((ss.eraseIdx j).take i ++ [s] ++ (ss.eraseIdx j).drop i).Nodup := by
  rw [List.append_assoc, List.singleton_append]
  refine (List.perm_middle (a := s)).nodup_iff.mpr ?_
  rw [List.take_append_drop]
  exact (perm_erase h).nodup_iff.mpr nd
theorem filt [DecidableEq α] (nd : ss.Nodup) (h : ss[j]? = some s) : (ss.filter fun x => !decide (x = s)) = ss.eraseIdx j := by
  have p := (perm_erase h).nodup_iff.mpr nd
  have hn := (List.nodup_cons.mp p).1
  have e := split_at h
  rw [erase_at] at hn ⊢
  have hn1 : ∀ x ∈ ss.take j, (!decide (x = s)) = true := fun x hx => by
    rw [Bool.not_eq_true', decide_eq_false_iff_not]
    rintro rfl
    exact hn (List.mem_append_left _ hx)
  have hn2 : ∀ x ∈ ss.drop (j + 1), (!decide (x = s)) = true := fun x hx => by
    rw [Bool.not_eq_true', decide_eq_false_iff_not]
    rintro rfl
    exact hn (List.mem_append_right _ hx)
  have key : (ss.take j ++ s :: ss.drop (j + 1)).filter (fun x => !decide (x = s)) = ss.take j ++ ss.drop (j + 1) := by
    rw [List.filter_append, List.filter_eq_self.mpr hn1, List.filter_cons_of_neg (by simp), List.filter_eq_self.mpr hn2]
  rw [← e] at key
  exact key
theorem exch_split (hs : ss[j]? = some s) (ht : ss[j + 1]? = some t) : ss = ss.take j ++ s :: t :: ss.drop (j + 2) := by
  have e := split_at hs
  obtain ⟨hl, e2⟩ := List.getElem?_eq_some_iff.mp ht
  rw [List.drop_eq_getElem_cons hl, e2] at e
  exact e
theorem exch_eq : ∀ (ss : List α) (j : Nat), ss[j]? = some s → ss[j + 1]? = some t → (ss.set j t).set (j + 1) s = ss.take j ++ [t, s] ++ ss.drop (j + 2)
  | [], j, h, _ => by simp at h
  | [_], j, _, h => by simp at h
  | a :: b :: r, 0, h, h2 => by
    simp
  | a :: b :: r, j + 1, h, h2 => by
    have ih := exch_eq (b :: r) j (by simpa using h) (by simpa using h2)
    show a :: ((b :: r).set j t).set (j + 1) s = _
    rw [ih]
    simp
theorem exch_nodup (nd : ss.Nodup) (hs : ss[j]? = some s) (ht : ss[j + 1]? = some t) : (ss.take j ++ [t, s] ++ ss.drop (j + 2)).Nodup := by
  have e := exch_split hs ht
  have p : (ss.take j ++ t :: s :: ss.drop (j + 2)).Perm (ss.take j ++ s :: t :: ss.drop (j + 2)) := List.Perm.append_left _ (List.Perm.swap ..)
  rw [← e] at p
  rw [List.append_assoc]
  exact p.nodup_iff.mpr nd
theorem move_eq (h : ss[j]? = some s) {i : Nat} (hi : i ≤ j) : (ss.eraseIdx j).take i ++ [s] ++ (ss.eraseIdx j).drop i = ss.take i ++ [s] ++ ((ss.drop i).take (j - i)) ++ ss.drop (j + 1) := by
  have hl := (List.getElem?_eq_some_iff.mp h).1
  have h1 : (ss.take j).length = j := by rw [List.length_take]; omega
  rw [erase_at]
  rw [List.take_append_of_le_length (by rw [h1]; exact hi), List.drop_append_of_le_length (by rw [h1]; exact hi), List.take_take, Nat.min_eq_left hi, List.drop_take]
  simp only [List.append_assoc]
end
theorem cut_pre (xs : List V) (k : Nat) : cutV xs none (some ((k : Nat) : Int)) = xs.take k := by
  unfold cutV
  rw [HT.sIx_none, HT.sIx_nat, List.drop_zero, Nat.sub_zero]
  rcases Nat.le_total k xs.length with h | h
  · rw [Nat.min_eq_left h]
  · rw [Nat.min_eq_right h, List.take_length, List.take_of_length_le h]
theorem cut_suf (xs : List V) (k : Nat) : cutV xs (some ((k : Nat) : Int)) none = xs.drop k := by
  unfold cutV
  rw [HT.sIx_none, HT.sIx_nat]
  rcases Nat.le_total k xs.length with h | h
  · rw [Nat.min_eq_left h, List.take_of_length_le (by rw [List.length_drop]; exact Nat.le_refl _)]
  · rw [Nat.min_eq_right h, Nat.sub_self, List.take_zero, List.drop_of_length_le h]
theorem cut_mid (xs : List V) (i k : Nat) (h1 : i ≤ xs.length) (h2 : k ≤ xs.length) : cutV xs (some ((i : Nat) : Int)) (some ((k : Nat) : Int)) = (xs.drop i).take (k - i) := by
  unfold cutV
  rw [HT.sIx_nat, HT.sIx_nat, Nat.min_eq_left h1, Nat.min_eq_left h2]
/-! ### the names -/
def some14 : List Str := ["int", "str", "list", "a", "A", "b b", "~", " ", "0", "10", "9", "a case of twenty ab", "aa", "ab"]
theorem some14_nodup : some14.Nodup := by unfold some14; decide +kernel
theorem some14_ok : ∀ s ∈ some14, PyData.strOk s = true := by unfold some14; decide +kernel
theorem tx_perm {ys : List V} {ss : List Str} (h : ys.Perm (tx ss)) : ∃ ms, ys = tx ms ∧ ms.Perm ss := by
  have fm : ∀ v ∈ ys, ∃ z : Str, v = V.str z := fun v hv => by
    obtain ⟨z, _, rfl⟩ := List.mem_map.mp (h.mem_iff.mp hv)
    exact ⟨z, rfl⟩
  let g : V → Str := fun v => match v with | .str z => z | _ => Str.empty
  refine ⟨ys.map g, ?_, ?_⟩
  · unfold tx
    rw [List.map_map]
    refine (List.map_id ys).symm.trans (List.map_congr_left fun v hv => ?_)
    obtain ⟨z, rfl⟩ := fm v hv
    rfl
  · have := h.map g
    have e : (tx ss).map g = ss := by
      unfold tx
      rw [List.map_map]
      exact (List.map_congr_left fun v hv => rfl).trans (List.map_id ss)
    rw [e] at this
    exact this
def spNames : Sp := fun vs H Q _ => ∃ (a l : Addr) (n many : Nat), vs = [.ref a, .int (many : Nat)] ∧ StreamAt H a l n ∧ n ≤ 10000 ∧ many ≤ 14 ∧
  ∀ (t : Addr) (ss : List Str) (H' : Hp), H' t = some (.lst (tx ss)) → ss.length = many → ss.Nodup → (∀ s ∈ ss, PyData.strOk s = true) → t ≠ a → t ≠ l → H t = none → StreamAt H' a l (n + 14) → Keep a l H H' → Q (.ref t) H'
section
variable {P : Program} {w : World} {K : PySem.W.Frag} {mg : Str → Option Value} {base : Heap} {C : Addr}
theorem scNames : FnScope ["_law_stream", "_law_many", "_law_some"] ["_law_stream", "_law_many"] (defScope sNames) := ⟨rfl, rfl, rfl, by decide +kernel, rfl, by decide +kernel, by decide +kernel⟩
theorem ok_names {f g1 g3 : Addr} {fd gd1 gd3 : FuncData} (F : Fun K "_law_p_names" "_law_p_names" sNames f fd) (T : Txt K mg) (D1 : Df K mg "_law_draw" sDraw g1 gd1 ["_law_stream", "_law_many"]) (D3 : Df K mg "_law_mixed" sMixed g3 gd3 ["_law_stream", "_law_some"]) : FnOk P w K mg base CX0 3 f fd ["_law_stream", "_law_many"] spNames := by
  have G3 : FnOk P w K mg base CX0 2 g3 gd3 ["_law_stream", "_law_some"] spMixed := ok_mixed D3.F T D1
  refine F.ok scNames (fun vs H Q E h => ?_) (fun cdv A outer s H vs Q E hr h => ?_)
  · obtain ⟨a, l, n, _, rfl, _⟩ := h
    rfl
  · obtain ⟨a, l, n, many, rfl, S0, hn, hm, kk⟩ := h
    refine ⟨_, pss_cons (ps_set (i := 2) scNames.nd rfl (Or.inl rfl) (pe_lst (pa_cons pe_str (pa_cons pe_str (pa_cons pe_str (pa_cons pe_str (pa_cons pe_str (pa_cons pe_str (pa_cons pe_str (pa_cons pe_str (pa_cons pe_str (pa_cons pe_str (pa_cons pe_str (pa_cons pe_str (pa_cons pe_str (pa_cons pe_str pa_nil))))))))))))))))
      (pss_one (ps_ret (pe_slice sl_list (pe_call G3 hr rfl D3.M D3.F.kp D3.B .nil pass0 (pa_cons (pv 0) (pa_cons (pv 2) pa_nil))) po_none (po_some (pv 1))))), ?_⟩
    refine ⟨by show 14 ≤ sizeLine; decide, fun L hL => ?_⟩
    have eL := new_ (o := .lst (tx some14)) hL
    have gL : (upd H L (.lst (tx some14))) L = some (.lst (tx some14)) := upd_same
    refine ⟨_, rfl, _, rfl, a, l, L, n, tx some14, rfl, S0.same eL, by omega, gL, by show 14 ≤ 48; decide, fun t ys H1 ht hp ta tl tn S1 k1 => ?_⟩
    obtain ⟨ms, rfl, pm⟩ := tx_perm hp
    refine ⟨_, rfl, _, rfl, t, _, rfl, SqL.of ht, fun q hq => ?_⟩
    rw [cut_pre]
    have eq_ := new_ (o := .lst ((tx ms).take many)) hq
    obtain ⟨qa, ql⟩ := S1.ne hq
    have hml : ms.length = 14 := by rw [pm.length_eq]; rfl
    have et : (tx ms).take many = tx (ms.take many) := by rw [tx, tx, List.map_take]
    refine kk q (ms.take many) _ (by rw [et]; exact upd_same) (by rw [List.length_take]; omega) ((pm.nodup_iff.mpr some14_nodup).sublist (List.take_sublist ..)) (fun s hs => some14_ok s (pm.mem_iff.mp (List.mem_of_mem_take hs))) qa ql ?_ (S1.same eq_) (((Keep.of eL).trans k1).trans (Keep.of eq_))
    exact keep_none ((Keep.of eL).trans k1) qa ql hq
end
end PA

set_option maxHeartbeats 8000000
namespace PA
open PySem L2 RZ
open C8 (pss_cut tCut)
/-! ### data of texts -/
abbrev SOk (ns : List Str) : Prop := ∀ s ∈ ns, PyData.strOk s = true
theorem strs_lay : ∀ ns : List Str, SOk ns → PyData.canLayAll0 (ns.map PyData.str) = true
  | [], _ => by simp [PyData.canLayAll0]
  | z :: zs, h => by simp [PyData.canLayAll0, PyData.canLay0, strs_lay zs fun s hs => h s (List.mem_cons_of_mem _ hs), h z (List.mem_cons_self ..)]
theorem strs_depth : ∀ ns : List Str, PyData.depthAll (ns.map PyData.str) ≤ 2
  | [] => by simp [PyData.depthAll]
  | z :: zs => by
    have h1 := strs_depth zs
    simp only [List.map_cons, PyData.depthAll, PyData.depth]
    omega
theorem strs_shaped {ns : List Str} (h : SOk ns) : SeqAt.shaped (.list (ns.map PyData.str)) = true := by
  have h1 := strs_depth ns
  have h2 : PyData.depth (.list (ns.map PyData.str)) ≤ 64 := by
    simp only [PyData.depth]
    omega
  show (PyData.canLay0 (.list (ns.map PyData.str)) && decide (PyData.depth (.list (ns.map PyData.str)) ≤ 64)) = true
  rw [Bool.and_eq_true]
  exact ⟨by simp only [PyData.canLay0]; exact strs_lay ns h, decide_eq_true h2⟩
theorem dp_strs {K : PySem.W.Frag} {H : Hp} : ∀ ns : List Str, DpAll K H (tx ns) (ns.map PyData.str)
  | [] => .nil
  | z :: zs => .cons (.str z) (dp_strs zs)
theorem strs_refl {ns : List Str} (h : SOk ns) : PyData.eqv (.list (ns.map PyData.str)) (.list (ns.map PyData.str)) = true := SeqAt.eqv_refl _ (by simp [PyData.canLay0, strs_lay ns h])
abbrev NLw : List Str := ["_law_script", "_law_stream", "_law_pool", "_law_names", "_law_cost", "_law_given", "_law_rival", "_law_turn", "_law_kind", "_law_name", "_law_at", "_law_found", "_law_place", "_law_to", "_law_ahead", "_law_one"]
structure Prog (K : PySem.W.Frag) (mg : Str → Option Value) (C fI fOr pOr fHas fLn fCa fEx fPu fDr fPl fDraw fStart fPick fMixed fSame fNames : Addr) (dI dOr dHas dLn dCa dEx dPu dDr dPl dDraw dStart dPick dMixed dSame dNames : FuncData) : Prop where
  T : Txt K mg
  R : TxR K C
  mgC : mg "Rival" = some (.ref C)
  FI : Fun K "__init__" "Rival.__init__" sInit fI dI
  bI : Binds K dI ["self", "names"] []
  M : Mk K C fI
  FO : Fun K "order" "Rival.order" sOrder fOr dOr
  bO : Binds K dOr ["self"] []
  pO : PropOf K C "order" pOr fOr
  FH : Fun K "__contains__" "Rival.__contains__" sHas fHas dHas
  bH : Binds K dHas ["self", "name"] []
  mH : Meth K C "__contains__" fHas
  FN : Fun K "__len__" "Rival.__len__" sLen fLn dLn
  bN : Binds K dLn ["self"] []
  mN : Meth K C "__len__" fLn
  FC : FunC K fCa dCa
  bC2 : Binds K dCa ["self", "name", "to"] []
  bC1 : Binds K dCa ["self", "name", "to"] [Value.none]
  mC : Meth K C "call" fCa
  FE : Fun K "exchange" "Rival.exchange" sExch fEx dEx
  bE : Binds K dEx ["self", "at"] []
  mE : Meth K C "exchange" fEx
  FP : Fun K "put" "Rival.put" sPut fPu dPu
  bP : Binds K dPu ["self", "name", "at"] []
  mP : Meth K C "put" fPu
  FD : Fun K "drop" "Rival.drop" sDrop fDr dDr
  bD : Binds K dDr ["self", "name"] []
  mD : Meth K C "drop" fDr
  FL : Fun K "_place" "Rival._place" sPlace fPl dPl
  bL : Binds K dPl ["self", "name"] []
  mL : Meth K C "_place" fPl
  draw : Df K mg "_law_draw" sDraw fDraw dDraw ["_law_stream", "_law_many"]
  start : Df K mg "_law_start" sStart fStart dStart ["_law_script"]
  pick : Df K mg "_law_pick" sPick fPick dPick ["_law_stream", "_law_some"]
  mixed : Df K mg "_law_mixed" sMixed fMixed dMixed ["_law_stream", "_law_some"]
  same : Df K mg "_law_same" sSame fSame dSame ["_law_found", "_law_due"]
  names : Df K mg "_law_p_names" sNames fNames dNames ["_law_stream", "_law_many"]
theorem ifNo {p A B : Prop} [Decidable p] (h : p) (q : B) : if (!decide p) = true then A else B := by
  rw [decide_eq_true h]
  exact iteF q
theorem Two.strs {K : PySem.W.Frag} {H : Hp} {n : Nat} {a b : Addr} {ss : List Str} (ha : H a = some (.lst (tx ss))) (hb : H b = some (.lst (tx ss))) (h : ss.length ≤ 60) : Two K H (n + 1) (.ref a) (.ref b) := by
  refine .lst ha hb rfl (by rw [List.length_map]; exact Nat.le_trans h (by decide)) fun i x y h1 h2 => ?_
  rw [h1] at h2
  cases h2
  rw [List.getElem?_map, Option.map_eq_some_iff] at h1
  obtain ⟨z, _, rfl⟩ := h1
  exact .str _ _
/-- how things stand in the law: ss the law's names, rs the rival's -/
structure LV (C : Addr) (H : Hp) (sa sl PL NM p dx N : Addr) (pool ss rs : List Str) (c : Int) (n : Nat) : Prop where
  st : StreamAt H sa sl n
  hP : H PL = some (.lst (tx pool))
  hM : H NM = some (.lst (tx ss))
  rv : RivAt C H p dx N rs c
  pa : PL ≠ sa ∧ PL ≠ sl
  ma : NM ≠ sa ∧ NM ≠ sl
  na : N ≠ sa ∧ N ≠ sl
  nm : N ≠ NM
  np : N ≠ PL
  mp : NM ≠ PL
section
variable {C : Addr} {H H' : Hp} {sa sl PL NM p dx N : Addr} {pool ss rs : List Str} {c : Int} {n n' : Nat}
theorem LV.ps (h : LV C H sa sl PL NM p dx N pool ss rs c n) : p ≠ sa ∧ p ≠ sl ∧ p ≠ N ∧ p ≠ NM ∧ p ≠ PL := by
  obtain ⟨ne, ns, x, z, w1, w2, _⟩ := id h.st
  exact ⟨ne_of h.rv.1 w1 (by intro z; cases z), ne_of h.rv.1 w2 (by intro z; cases z), ne_of h.rv.1 h.rv.2.1 (by intro z; cases z), ne_of h.rv.1 h.hM (by intro z; cases z), ne_of h.rv.1 h.hP (by intro z; cases z)⟩
theorem LV.kept (h : LV C H sa sl PL NM p dx N pool ss rs c n) (s : StreamAt H' sa sl n') (k : Keep sa sl H H') : LV C H' sa sl PL NM p dx N pool ss rs c n' := by
  obtain ⟨h1, h2, h3, h4, h5⟩ := h.ps
  exact { h with st := s, hP := k _ _ h.pa.1 h.pa.2 h.hP, hM := k _ _ h.ma.1 h.ma.2 h.hM, rv := ⟨k _ _ h1 h2 h.rv.1, k _ _ h.na.1 h.na.2 h.rv.2.1, h.rv.2.2⟩ }
theorem LV.same (h : LV C H sa sl PL NM p dx N pool ss rs c n) (s : Same H H') : LV C H' sa sl PL NM p dx N pool ss rs c n := h.kept (h.st.same s) (Keep.of s)
/-- the law's names are another list -/
theorem LV.newM (h : LV C H sa sl PL NM p dx N pool ss rs c n) {q : Addr} {ss2 : List Str} (hq : H' q = some (.lst (tx ss2))) (h0 : H q = none) (s : Same H H') : LV C H' sa sl PL q p dx N pool ss2 rs c n := by
  have h' := h.same s
  have ne : ∀ {b : Addr} {o : HO}, H b = some o → b ≠ q := fun {b o} e => ne_of_none e h0
  obtain ⟨_, ns, x, z, w1, w2, _⟩ := id h.st
  exact { h' with hM := hq, ma := ⟨(ne w1).symm, (ne w2).symm⟩, nm := ne h.rv.2.1, mp := (ne h.hP).symm }
theorem LV.setM (h : LV C H sa sl PL NM p dx N pool ss rs c n) {ss2 : List Str} : LV C (upd H NM (.lst (tx ss2))) sa sl PL NM p dx N pool ss2 rs c n := by
  obtain ⟨h1, h2, h3, h4, h5⟩ := h.ps
  exact { h with st := h.st.lst h.hM h.ma.1 h.ma.2, hP := by rw [upd_ne h.mp.symm]; exact h.hP, hM := upd_same, rv := ⟨by rw [upd_ne h4]; exact h.rv.1, by rw [upd_ne h.nm]; exact h.rv.2.1, h.rv.2.2⟩ }
theorem LV.setR (h : LV C H sa sl PL NM p dx N pool ss rs c n) {rs2 : List Str} (nd : rs2.Nodup) (l : rs2.length ≤ 60) : LV C (upd H N (.lst (tx rs2))) sa sl PL NM p dx N pool ss rs2 c n := by
  obtain ⟨h1, h2, h3, h4, h5⟩ := h.ps
  exact { h with st := h.st.lst h.rv.2.1 h.na.1 h.na.2, hP := by rw [upd_ne h.np.symm]; exact h.hP, hM := by rw [upd_ne h.nm.symm]; exact h.hM, rv := ⟨by rw [upd_ne h3]; exact h.rv.1, upd_same, nd, l⟩ }
theorem LV.setC (h : LV C H sa sl PL NM p dx N pool ss rs c n) (c2 : Int) : LV C (upd H p (.ins C dx (fR N c2))) sa sl PL NM p dx N pool ss rs c2 n := by
  obtain ⟨h1, h2, h3, h4, h5⟩ := h.ps
  refine { h with st := ?_, hP := by rw [upd_ne h5.symm]; exact h.hP, hM := by rw [upd_ne h4.symm]; exact h.hM, rv := ⟨upd_same, by rw [upd_ne h3.symm]; exact h.rv.2.1, h.rv.2.2⟩ }
  obtain ⟨ne, ns, x, z, w1, w2, w3⟩ := h.st
  exact ⟨ne, ns, x, z, by rw [upd_ne h1.symm]; exact w1, by rw [upd_ne h2.symm]; exact w2, w3⟩
end
def spLaw (K : PySem.W.Frag) : Sp := fun vs H Q _ => ∃ (a : Addr) (ns : List Int), vs = [.ref a] ∧ SqL K H a (ns.map V.int) ∧ ns.length ≤ 63 ∧ ∀ H', Q (.bl true) H'
section
variable {P : Program} {w : World} {K : PySem.W.Frag} {mg : Str → Option Value} {base : Heap} {C : Addr}
theorem mk_riv {H : Hp} {Q : VK} {E : XK} {G : Addr} {ss : List Str} (hG : Sq K H G (tx ss)) (nd : ss.Nodup) (l : ss.length ≤ 60) {x dx : Addr} (nx : H x = none) (ndx : H dx = none) (nex : dx ≠ x)
    (kk : ∀ N H', Same H H' → RivAt C H' x dx N ss 0 → H N = none → Q .non H') : spInitR K C [V.ref x, V.ref G] (upd (upd H dx (.own x)) x (.ins C dx [])) Q E := by
  have s1 : Same H (upd (upd H dx (.own x)) x (.ins C dx [])) := fun c o e => by
    rw [upd_ne (ne_of_none e nx), upd_ne (ne_of_none e ndx)]
    exact e
  exact ⟨x, dx, G, ss, rfl, upd_same, hG.up s1, nd, l, fun N H' rv kp hN => kk N H' (fun c o e => kp c o (s1 _ _ e) (ne_of_none e nx)) rv (L2.Same.none s1 hN)⟩
theorem op_in_seqK {X : Cx} {K : PySem.W.Frag} (h : X.K = K) : OpR X (compareOp .In) (rIn K false) := h ▸ op_in_seq
theorem scLaw : FnScope NLw ["_law_script"] (defScope sLaw) := ⟨rfl, rfl, rfl, by decide +kernel, rfl, by decide +kernel, by decide +kernel⟩
theorem ok_law {f C fI fOr pOr fHas fLn fCa fEx fPu fDr fPl fDraw fStart fPick fMixed fSame fNames : Addr} {fd dI dOr dHas dLn dCa dEx dPu dDr dPl dDraw dStart dPick dMixed dSame dNames : FuncData} (F : Fun K "law" "law" sLaw f fd)
    (G : Prog K mg C fI fOr pOr fHas fLn fCa fEx fPu fDr fPl fDraw fStart fPick fMixed fSame fNames dI dOr dHas dLn dCa dEx dPu dDr dPl dDraw dStart dPick dMixed dSame dNames) : FnOk P w K mg base CX0 5 f fd ["_law_script"] (spLaw K) := by
  have T := G.T
  have R := G.R
  have GI : FnOk P w K mg base CX0 1 fI dI ["self", "names"] (spInitR K C) := ok_initR G.FI T R
  have GO : FnOk P w K mg base CX0 1 fOr dOr ["self"] (spOrder C) := ok_order G.FO T R
  have GH : FnOk P w K mg base CX0 1 fHas dHas ["self", "name"] (spHas C) := ok_has G.FH T R
  have GN : FnOk P w K mg base CX0 1 fLn dLn ["self"] (spLen C) := ok_len G.FN T R
  have GC : FnOk P w K mg base CX0 2 fCa dCa ["self", "name", "to"] (spCallR C) := ok_callR G.FC T R G.FL G.bL G.mL
  have GE : FnOk P w K mg base CX0 1 fEx dEx ["self", "at"] (spExch C) := ok_exch G.FE T R
  have GP : FnOk P w K mg base CX0 1 fPu dPu ["self", "name", "at"] (spPut C) := ok_put G.FP T R
  have GD : FnOk P w K mg base CX0 2 fDr dDr ["self", "name"] (spDrop C) := ok_drop G.FD T R G.FL G.bL G.mL
  have GDraw : FnOk P w K mg base CX0 1 fDraw dDraw ["_law_stream", "_law_many"] spDraw := ok_draw G.draw.F T
  have GStart : FnOk P w K mg base CX0 1 fStart dStart ["_law_script"] (spStart K) := ok_start G.start.F T
  have GPick : FnOk P w K mg base CX0 2 fPick dPick ["_law_stream", "_law_some"] spPick := ok_pick G.pick.F T G.draw
  have GNames : FnOk P w K mg base CX0 3 fNames dNames ["_law_stream", "_law_many"] spNames := ok_names G.names.F T G.draw G.mixed
  have GSame : FnOk P w K mg base CX0 2 fSame dSame ["_law_found", "_law_due"] (spSame K 1) := ok_same G.same T 1
  refine F.ok scLaw (fun vs H Q E h => ?_) (fun cdv A outer s H vs Q E hr h => ?_)
  · obtain ⟨a, ns, rfl, _⟩ := h
    rfl
  · obtain ⟨a, ns, rfl, hS, hlen, kk⟩ := h
    have hr1 : Room 1 _ := hr.mono (by decide)
    have hr2 : Room 2 _ := hr.mono (by decide)
    have hr3 : Room 3 _ := hr.mono (by decide)
    have pn : ∀ {i : Nat} {y : Str} {pos : Pos} {e : Expr}, True := trivial
    refine ⟨_, pss_cons (ps_set (i := 1) scLaw.nd rfl (Or.inl rfl) (pe_call GStart hr1 rfl G.start.M G.start.F.kp G.start.B .nil pass0 (pa_cons (pv 0) pa_nil)))
      (pss_cons (ps_set (i := 2) scLaw.nd rfl (Or.inl rfl) (pe_call GNames hr3 rfl G.names.M G.names.F.kp G.names.B .nil pass0 (pa_cons (pv 1) (pa_cons pe_int pa_nil))))
      (pss_cut (ps_asg (pe_tup (pa_cons (pe_slice sl_list (pv 2) po_none (po_some (pe_call GDraw hr1 rfl G.draw.M G.draw.F.kp G.draw.B .nil pass0 (pa_cons (pv 1) (pa_cons pe_int pa_nil))))) (pa_cons pe_int pa_nil))) (pg_tup rfl (pgs_cons (pg_name (i := 3) scLaw.nd rfl (Or.inr rfl)) (pgs_cons (pg_name (i := 4) scLaw.nd rfl (Or.inl rfl)) pgs_nil))))
      (pss_cons (ps_set (i := 5) scLaw.nd rfl (Or.inl rfl) (pe_callTy call_list_of (by rfl) T.list_ boot_list' (pa_cons (pv 3) pa_nil)))
      (pss_cut (ps_set (i := 6) scLaw.nd rfl (Or.inr rfl) (pe_make (E := E0) G.M GI hr2 rfl G.mgC G.bI .nil pass0 (pa_cons (pe_ifExp (pt_cmpR op_eq (pe_call GDraw hr1 rfl G.draw.M G.draw.F.kp G.draw.B .nil pass0 (pa_cons (pv 1) (pa_cons pe_int pa_nil))) pe_int (nomark _)) (pe_callTy call_tuple_of (by rfl) T.tup_ boot_tuple' (pa_cons (pv 5) pa_nil)) (pv 5)) pa_nil)))
      (pss_cons (ps_if (pt_cmpR (op_neD hr.units) (pv 5) (pv 3) (nomark _)) pss_never pss_nil)
      (pss_cons (ps_expr (pe_bm PySem.F.plainAttrs_list PySem.F.slot_list_append PySem.F.type_list_append mt_append (pv 5) (pa_cons pe_str pa_nil)))
      (pss_cut (ps_for PassesOwn.never rfl (pi_range1 (by rfl) T.range_ (pa_cons pe_int pa_nil)) (pg_name (i := 7) scLaw.nd rfl (Or.inl rfl))
        (pss_cons (ps_asg (pe_tup (pa_cons (pe_call GDraw hr1 rfl G.draw.M G.draw.F.kp G.draw.B .nil pass0 (pa_cons (pv 1) (pa_cons pe_int pa_nil))) (pa_cons (pe_call GPick hr2 rfl G.pick.M G.pick.F.kp G.pick.B .nil pass0 (pa_cons (pv 1) (pa_cons (pv 2) pa_nil))) pa_nil))) (pg_tup rfl (pgs_cons (pg_name (i := 8) scLaw.nd rfl (Or.inl rfl)) (pgs_cons (pg_name (i := 9) scLaw.nd rfl (Or.inr rfl)) pgs_nil))))
        (pss_cut (ps_if (pt_cmpR op_notIn_seq (pv 9) (pv 3) rfl)
          (pss_cons (ps_set (i := 10) scLaw.nd rfl (Or.inl rfl) (pe_call GDraw hr1 rfl G.draw.M G.draw.F.kp G.draw.B .nil pass0 (pa_cons (pv 1) (pa_cons (pe_op op_add (pe_callB call_len_seq (by rfl) T.len_ PySem.boot_len (pa_cons (pv 3) pa_nil)) pe_int) pa_nil))))
          (pss_cons (ps_expr (pe_bm PySem.F.plainAttrs_list PySem.F.slot_list_insert PySem.F.type_list_insert mt_insert (pv 3) (pa_cons (pv 10) (pa_cons (pv 9) pa_nil))))
          (pss_one (ps_set (i := 11) scLaw.nd rfl (Or.inl rfl) (pe_meth (E := E0) (pv 6) R.cl G.mP GP hr1 G.bP .nil pass0 (pa_cons (pv 9) (pa_cons (pv 10) pa_nil)))))))
          (pss_one (ps_if (pt_cmpR op_eq (pv 8) pe_int (nomark _))
            (pss_cons (ps_set (i := 3) scLaw.nd rfl (Or.inr rfl) (pe_lc (own := [("_law_one", 15)]) (g := gName 15) (by rfl) scLaw.nd (pi_list (pv 3)) (blkOk_by (N := NLw) (sc := defScope sLaw) (by decide +kernel))
                (fun _ _ _ _ _ => pg_name (i := 15) scLaw.nd rfl (Or.inl rfl)) (fun _ _ _ _ _ => pts_one (pt_cmpR op_ne (pv 15) (pv 9) (nomark _))) (fun _ _ _ _ _ => pv 15)))
            (pss_one (ps_set (i := 11) scLaw.nd rfl (Or.inl rfl) (pe_meth (E := E0) (pv 6) R.cl G.mD GD hr2 G.bD .nil pass0 (pa_cons (pv 9) pa_nil)))))
          (pss_one (ps_if (PW.pt (pw_and (pt_cmpR op_eq (pv 8) pe_int (nomark _)) (pw_and1 (pt_cmpR op_gt (pe_callB call_len_seq (by rfl) T.len_ PySem.boot_len (pa_cons (pv 3) pa_nil)) pe_int (nomark _)))))
            (pss_cons (ps_set (i := 10) scLaw.nd rfl (Or.inl rfl) (pe_call GDraw hr1 rfl G.draw.M G.draw.F.kp G.draw.B .nil pass0 (pa_cons (pv 1) (pa_cons (pe_op op_sub (pe_callB call_len_seq (by rfl) T.len_ PySem.boot_len (pa_cons (pv 3) pa_nil)) pe_int) pa_nil))))
            (pss_cons (ps_set (i := 3) scLaw.nd rfl (Or.inr rfl) (pe_op op_cat (pe_op op_cat (pe_slice sl_list (pv 3) po_none (po_some (pv 10))) (pe_lst (pa_cons (pe_ix ix_list (pv 3) (pe_op op_add (pv 10) pe_int) (fun _ _ => rfl)) (pa_cons (pe_ix ix_list (pv 3) (pv 10) (fun _ _ => rfl)) pa_nil)))) (pe_slice sl_list (pv 3) (po_some (pe_op op_add (pv 10) pe_int)) po_none)))
            (pss_one (ps_par (i := 4) (j := 11) (by rfl) scLaw.nd rfl rfl (by decide) rfl rfl (pa_cons (pe_op op_add (pv 4) pe_int) (pa_cons (pe_meth (E := E0) (pv 6) R.cl G.mE GE hr1 G.bE .nil pass0 (pa_cons (pv 10) pa_nil)) pa_nil)) (by rfl)))))
          (pss_one (ps_if (pt_cmpR op_eq (pv 8) pe_int (nomark _))
            (pss_one (ps_par (i := 4) (j := 11) (by rfl) scLaw.nd rfl rfl (by decide) rfl rfl (pa_cons (pe_op op_add (pv 4) (pe_bm PySem.F.plainAttrs_list PySem.F.slot_list_index PySem.F.type_list_index mt_index (pv 3) (pa_cons (pv 9) pa_nil))) (pa_cons (pe_meth (E := E0) (pv 6) R.cl G.mC GC hr2 G.bC1 (show Vals [V.non] [Value.none] from .cons rfl .nil) pass0 (pa_cons (pv 9) pa_nil)) pa_nil)) (by rfl)))
            (pss_cons (ps_set (i := 12) scLaw.nd rfl (Or.inl rfl) (pe_bm PySem.F.plainAttrs_list PySem.F.slot_list_index PySem.F.type_list_index mt_index (pv 3) (pa_cons (pv 9) pa_nil)))
            (pss_cons (ps_set (i := 13) scLaw.nd rfl (Or.inl rfl) (pe_call GDraw hr1 rfl G.draw.M G.draw.F.kp G.draw.B .nil pass0 (pa_cons (pv 1) (pa_cons (pe_op op_add (pv 12) pe_int) pa_nil))))
            (pss_cons (ps_set (i := 4) scLaw.nd rfl (Or.inl rfl) (pe_op op_add (pv 4) (pv 12)))
            (pss_cons (ps_set (i := 14) scLaw.nd rfl (Or.inl rfl) (pe_op op_cat (pe_slice sl_list (pv 3) po_none (po_some (pv 13))) (pe_lst (pa_cons (pv 9) pa_nil))))
            (pss_cons (ps_set (i := 3) scLaw.nd rfl (Or.inr rfl) (pe_op op_cat (pe_op op_cat (pv 14) (pe_slice sl_list (pv 3) (po_some (pv 13)) (po_some (pv 12)))) (pe_slice sl_list (pv 3) (po_some (pe_op op_add (pv 12) pe_int)) po_none)))
            (pss_one (ps_set (i := 11) scLaw.nd rfl (Or.inl rfl) (pe_meth (E := E0) (pv 6) R.cl G.mC GC hr2 G.bC2 .nil pass0 (pa_cons (pv 9) (pa_cons (pv 13) pa_nil)))))))))))))))))
        (pss_cut (ps_if (PW.pt (pw_or (pt_cmpR op_notN (pv 11) pe_non (nomark _)) (pw_or (pt_not (pt_val (pe_call GSame hr2 rfl G.same.M G.same.F.kp G.same.B .nil pass0 (pa_cons (pe_prop (E := E0) (pv 6) R.cl G.pO GO hr2 G.bO .nil pass0 rfl) (pa_cons (pv 3) pa_nil)))))
            (pw_or1 (pt_not (pt_val (pe_call GSame hr2 rfl G.same.M G.same.F.kp G.same.B .nil pass0 (pa_cons (pe_fld (pv 6) rfl) (pa_cons (pv 4) pa_nil))))))))) pss_never pss_nil)
        (pss_cons (ps_expr (pe_bm PySem.F.plainAttrs_list PySem.F.slot_list_append PySem.F.type_list_append mt_append (pe_prop (E := E0) (pv 6) R.cl G.pO GO hr2 G.bO .nil pass0 rfl) (pa_cons pe_str pa_nil)))
        (pss_one (ps_if (PW.pt (pw_or (pt_cmpR op_ne (pe_callB (call_lenOwn (E := E0) G.mN.at_ G.mN.fn GN hr2 G.bN pass0) (by rfl) T.len_ PySem.boot_len (pa_cons (pv 6) pa_nil)) (pe_callB call_len_seq (by rfl) T.len_ PySem.boot_len (pa_cons (pv 3) pa_nil)) (nomark _))
            (pw_or1 (pt_not (pt_val (pe_callB (cr_all rfl) (by rfl) T.all_ boot_all' (pa_cons (pe_lc (own := [("_law_one", 15)]) (g := gName 15) (tt := tYes) (by rfl) scLaw.nd (pi_list (pv 2)) (blkOk_by (N := NLw) (sc := defScope sLaw) (by decide +kernel))
                (fun _ _ _ _ _ => pg_name (i := 15) scLaw.nd rfl (Or.inl rfl)) (fun _ _ _ _ _ => pts_nil)
                (fun _ _ _ _ _ => pe_cmpR op_eq (pe_cmpR (op_inOwn (E := E0) G.mH.at_ G.mH.fn GH hr1 G.bH pass0) (pv 15) (pv 6) rfl) (pe_cmpR (op_in_seqK (K := K) rfl) (pv 15) (pv 3) rfl) (nomark _))) pa_nil))))))) pss_never pss_nil)))))))
      (pss_one (ps_ret (pe_call GSame hr2 rfl G.same.M G.same.F.kp G.same.B .nil pass0 (pa_cons (pe_prop (E := E0) (pv 6) R.cl G.pO GO hr2 G.bO .nil pass0 rfl) (pa_cons (pv 3) pa_nil)))))))))))), ?_⟩
    refine ⟨_, rfl, a, ns, rfl, hS, hlen, fun sa sl H1 S1 _ _ _ => ?_⟩
    refine ⟨_, rfl, sa, sl, 0, 7, rfl, S1, by decide, by decide, fun PL pool H2 hP hPl hPn hPo Pa Pl _ S2 k2 => ?_⟩
    refine ⟨fun σ' H' => ∃ NM ss, σ' = [some (.ref a), some (.ref sa), some (.ref PL), some (.ref NM), some (.int 0), none, none, none, none, none, none, none, none, none, none, none] ∧ StreamAt H' sa sl 15 ∧ H' PL = some (.lst (tx pool)) ∧ H' NM = some (.lst (tx ss)) ∧ ss.Nodup ∧ ss.length ≤ 7 ∧ SOk ss ∧ (NM ≠ sa ∧ NM ≠ sl) ∧ NM ≠ PL, ?_, ?_⟩
    · refine ⟨_, rfl, _, rfl, sa, sl, 14, 7, rfl, S2, by decide, by decide, sm48 (by decide) (by decide), fun r H3 r0 r1 S3 k3 => ⟨r, rfl, PL, _, rfl, SqL.of (k3 _ _ Pa Pl hP), fun q hq => ?_⟩⟩
      obtain ⟨qa, ql⟩ := S3.ne hq
      have hP3 := k3 _ _ Pa Pl hP
      have er : r = ((r.toNat : Nat) : Int) := (Int.toNat_of_nonneg r0).symm
      generalize r.toNat = m at er
      subst er
      rw [cut_pre]
      have em : (tx pool).take m = tx (pool.take m) := List.map_take.symm
      rw [em]
      have eq_ := new_ (o := .lst (tx (pool.take m))) hq
      refine ⟨by show 2 ≤ sizeLine; decide, fun tp htp => ?_⟩
      have etp := new_ (o := .tup [.ref q, .int 0]) htp
      refine ⟨tp, _, rfl, SqT.of upd_same, rfl, _, _, rfl, _, _, rfl, rfl, ?_⟩
      refine ⟨q, pool.take m, rfl, (S3.same eq_).same etp, etp _ _ (eq_ _ _ hP3), etp _ _ upd_same, hPn.sublist (List.take_sublist ..), by rw [List.length_take]; omega, fun s hs => hPo s (List.mem_of_mem_take hs), ⟨qa, ql⟩, (ne_of_none hP3 hq).symm⟩
    rintro _ H3 ⟨NM, ss, rfl, S3, hP3, hM3, nd, l7, sok, ma, mp⟩
    refine ⟨_, rfl, NM, _, rfl, .inl (SqL.of hM3), fun GV hG => ?_⟩
    have eG := new_ (o := .lst (tx ss)) hG
    have gG : (upd H3 GV (.lst (tx ss))) GV = some (.lst (tx ss)) := upd_same
    obtain ⟨Ga, Gl_⟩ := S3.ne hG
    have GP_ := (ne_of_none hP3 hG).symm
    have GM_ := (ne_of_none hM3 hG).symm
    have S4 := S3.same eG
    have hP4 := eG _ _ hP3
    have hM4 := eG _ _ hM3
    generalize (upd H3 GV (.lst (tx ss))) = H4 at gG S4 hP4 hM4
    refine ⟨fun σ' H' => ∃ p dx N, σ' = [some (.ref a), some (.ref sa), some (.ref PL), some (.ref NM), some (.int 0), some (.ref GV), some (.ref p), none, none, none, none, none, none, none, none, none] ∧ LV C H' sa sl PL NM p dx N pool ss ss 0 16 ∧ H' GV = some (.lst (tx ss)) ∧ N ≠ GV, ?_, ?_⟩
    · have fin : ∀ (H5 H6 : Hp) (G' : Addr), StreamAt H5 sa sl 16 → Keep sa sl H4 H5 → Same H5 H6 → Sq K H6 G' (tx ss) → ∀ (x dx : Addr) (Q' : Hp → Prop) (E' : XK), (∀ N H', LV C H' sa sl PL NM x dx N pool ss ss 0 16 → H' GV = some (.lst (tx ss)) → N ≠ GV → Q' H') →
          H6 x = none → H6 dx = none → dx ≠ x → spInitR K C [V.ref x, V.ref G'] (upd (upd H6 dx (.own x)) x (.ins C dx [])) (fun v H2 => v = .non ∧ Q' H2) E' := by
        intro H5 H6 G' S5 k5 s6 hG' x dx Q' E' kq nx ndx nex
        refine mk_riv hG' nd (by omega) nx ndx nex fun N H7 s7 rv hN => ⟨rfl, ?_⟩
        have S6 := S5.same s6
        have old : ∀ {b : Addr} {o : HO}, b ≠ sa → b ≠ sl → H4 b = some o → H6 b = some o := fun {b o} b1 b2 e => s6 _ _ (k5 _ _ b1 b2 e)
        obtain ⟨Na, Nl⟩ := S6.ne hN
        have gP := old Pa Pl hP4
        have gM := old ma.1 ma.2 hM4
        have gV := old Ga Gl_ gG
        exact kq N H7 ⟨S6.same s7, s7 _ _ gP, s7 _ _ gM, rv, ⟨Pa, Pl⟩, ma, ⟨Na, Nl⟩, (ne_of_none gM hN).symm, (ne_of_none gP hN).symm, mp⟩ (s7 _ _ gV) (ne_of_none gV hN).symm
      refine ⟨_, rfl, sa, sl, 15, 2, rfl, S4, by decide, by decide, sm48 (by decide) (by decide), fun r H5 r0 r1 S5 k5 => ⟨rfl, _, rfl, ifD_2 (fun _ => ?_) (fun _ => ?_)⟩⟩
      · refine ⟨_, rfl, GV, _, rfl, .inl ⟨SqL.of (k5 _ _ Ga Gl_ gG), fun l hl => ?_⟩⟩
        intro x dx nx ndx nex
        refine fin H5 _ l S5 k5 (new_ hl) (.inr (SqT.of upd_same)) x dx _ _ (fun N H' lv g1 g2 => ?_) nx ndx nex
        exact ⟨x, dx, N, rfl, lv, g1, g2⟩
      · refine ⟨_, rfl, ?_⟩
        intro x dx nx ndx nex
        refine fin H5 H5 GV S5 k5 (Same.refl _) (.inl (SqL.of (k5 _ _ Ga Gl_ gG))) x dx _ _ (fun N H' lv g1 g2 => ?_) nx ndx nex
        exact ⟨x, dx, N, rfl, lv, g1, g2⟩
    rintro _ H5 ⟨p, dx, N, rfl, lv, gG5, NG⟩
    refine ⟨_, rfl, _, rfl, .list (ss.map PyData.str), .list (ss.map PyData.str), .lst (SqL.of gG5) (dp_strs ss), .lst (SqL.of lv.hM) (dp_strs ss), strs_shaped sok, strs_shaped sok, ?_⟩
    rw [strs_refl sok]
    refine ⟨_, rfl, iteF ?_⟩
    refine ⟨_, rfl, .inl ⟨rfl, _, SqL.of gG5⟩, GV, tx ss, _, rfl, rfl, gG5, ?_, ?_⟩
    · rw [List.length_map]
      exact Nat.lt_of_le_of_lt l7 (by decide)
    have lv1 : LV C (upd H5 GV (.lst (tx ss ++ [V.str "x"]))) sa sl PL NM p dx N pool ss ss 0 16 := by
      obtain ⟨h1, h2, h3, h4, h5⟩ := lv.ps
      have pG : p ≠ GV := ne_of lv.rv.1 gG5 (by intro z; cases z)
      exact { lv with st := lv.st.lst gG5 Ga Gl_, hP := by rw [upd_ne GP_.symm]; exact lv.hP, hM := by rw [upd_ne GM_.symm]; exact lv.hM, rv := ⟨by rw [upd_ne pG]; exact lv.rv.1, by rw [upd_ne NG]; exact lv.rv.2.1, lv.rv.2.2⟩ }
    generalize (upd H5 GV (.lst (tx ss ++ [V.str "x"]))) = H6 at lv1 ⊢
    clear lv gG5
    refine ⟨fun σ' H' => ∃ NM ss c n x7 x8 x9 x10 x11 x12 x13 x14, σ' = [some (.ref a), some (.ref sa), some (.ref PL), some (.ref NM), some (.int c), some (.ref GV), some (.ref p), x7, x8, x9, x10, x11, x12, x13, x14, none] ∧ LV C H' sa sl PL NM p dx N pool ss ss c n ∧ ss.length ≤ 33 ∧ SOk ss, ?_, ?_⟩
    · refine ⟨26, rfl, by decide, by decide, ?_⟩
      refine for_range (n := 26) (fun i σ' H' => ∃ NM ss c n x7 x8 x9 x10 x11 x12 x13 x14, σ' = [some (.ref a), some (.ref sa), some (.ref PL), some (.ref NM), some (.int c), some (.ref GV), some (.ref p), x7, x8, x9, x10, x11, x12, x13, x14, none] ∧ LV C H' sa sl PL NM p dx N pool ss ss c n ∧ ss.length ≤ 7 + i ∧ SOk ss ∧ n ≤ 16 + 10 * i) ?_ ?_ ?_
      · exact ⟨NM, ss, 0, 16, none, none, none, none, none, none, none, none, rfl, lv1, by omega, sok, by omega⟩
      · rintro i _ H7 hi ⟨NM, ss, c, n, x7, x8, x9, x10, x11, x12, x13, x14, rfl, lv, hl, sok, hn⟩
        clear lv1
        refine ⟨_, rfl, sa, sl, n, 6, rfl, lv.st, by omega, by decide, sm48 (by decide) (by decide), fun kd H8 kd0 kd1 S8 k8 => ?_⟩
        have lv8 := lv.kept S8 k8
        refine ⟨_, rfl, _, rfl, sa, sl, PL, n + 1, tx pool, rfl, S8, by omega, lv8.hP, Pa, Pl, by rw [List.length_map, hPl]; decide, by rw [List.length_map, hPl]; decide, fun j v H9 hv S9 k9 => ?_⟩
        have lv9 := lv8.kept S9 k9
        obtain ⟨nm, hnm, rfl⟩ : ∃ nm, nm ∈ pool ∧ v = .str nm := by
          rw [List.getElem?_map, Option.map_eq_some_iff] at hv
          obtain ⟨z, hz, rfl⟩ := hv
          exact ⟨z, List.mem_of_getElem? hz, rfl⟩
        clear lv8
        refine ⟨by show 2 ≤ sizeLine; decide, fun tp htp => ⟨tp, _, rfl, SqT.of upd_same, rfl, _, _, rfl, _, _, rfl, rfl, ?_⟩⟩
        have lvA := lv9.same (new_ (o := .tup [.int kd, .str nm]) htp)
        clear lv9
        generalize (upd H9 tp (.tup [.int kd, .str nm])) = HA at lvA ⊢
        refine ⟨fun σ' H' => ∃ NM ss c n2 x10 x12 x13 x14, σ' = [some (.ref a), some (.ref sa), some (.ref PL), some (.ref NM), some (.int c), some (.ref GV), some (.ref p), some (.int (0 + (i : Int))), some (.int kd), some (.str nm), x10, some .non, x12, x13, x14, none] ∧ LV C H' sa sl PL NM p dx N pool ss ss c n2 ∧ ss.length ≤ 8 + i ∧ SOk ss ∧ n2 ≤ n + 9, ?_, ?_⟩
        · have l60 : ss.length ≤ 60 := by omega
          have lM : (tx ss).length = ss.length := List.length_map ..
          refine ⟨_, rfl, _, rfl, NM, _, rfl, .inl (SqL.of lvA.hM), rfl, tx_flat _, _, rfl, ?_⟩
          show ite ((!inV (.str nm) (tx ss)) = true) _ _
          rw [inV_tx]
          by_cases hm : nm ∈ ss
          · rw [decide_eq_true hm]
            refine iteF ?_
            obtain ⟨jj, hjl, hje⟩ := List.getElem_of_mem hm
            have hj : ss[jj]? = some nm := by rw [List.getElem?_eq_getElem hjl, hje]
            have nd := lvA.rv.2.2.1
            refine ⟨_, rfl, rfl, _, rfl, ifD_2 (fun hk => ?_) (fun hk => ?_)⟩
            · -- drop
              refine ⟨_, rfl, NM, rfl, ⟨_, SqL.of lvA.hM⟩, fun D hD => ?_⟩
              refine lc_list (xs := tx ss) (fun m H' => Same HA H' ∧ H' D = some (.lst (tx ((ss.take m).filter fun x => !decide (x = nm))))) ⟨new_ hD, upd_same⟩ (fun m H' _ q => SqL.of (q.1 _ _ lvA.hM)) ?_ ?_
              · rintro m x HB hx ⟨sB, hdB⟩
                rw [List.getElem?_map, Option.map_eq_some_iff] at hx
                obtain ⟨z, hz, rfl⟩ := hx
                have hml := (List.getElem?_eq_some_iff.mp hz).1
                refine ⟨rfl, _, rfl, _, rfl, rfl, _, rfl, ?_⟩
                have hdec : decide (V.str z = V.str nm) = decide (z = nm) := by
                  by_cases e : z = nm
                  · rw [decide_eq_true e, decide_eq_true (by rw [e])]
                  · rw [decide_eq_false e, decide_eq_false (fun q => e (by injection q))]
                rw [hdec]
                by_cases e : z = nm
                · rw [decide_eq_true e]
                  refine iteF ⟨sB, ?_⟩
                  rw [L2.take_succ' hz, List.filter_append, List.filter_cons_of_neg (by simp [e]), List.filter_nil, List.append_nil]
                  exact hdB
                · rw [decide_eq_false e]
                  refine iteT ⟨_, rfl, _, hdB, ?_, fun b u q => ?_, ?_⟩
                  · rw [List.length_map]
                    exact Nat.lt_of_le_of_lt (Nat.le_trans (List.length_filter_le ..) (by rw [List.length_take]; omega : (ss.take m).length ≤ 60)) (by decide)
                  · rw [upd_ne (ne_of_none q hD)]
                    exact sB _ _ q
                  · rw [upd_same, L2.take_succ' hz, List.filter_append, List.filter_cons_of_pos (by simp [e]), List.filter_nil, tx, tx, List.map_append]
                    rfl
              · rintro HB ⟨sB, hdB⟩
                rw [lM, List.take_length, filt nd hj] at hdB
                have lvB := lvA.newM hdB hD sB
                refine ⟨_, rfl, p, dx, _, rfl, lvB.rv.1, fR_no _ _ (by decide +kernel) (by decide +kernel), _, rfl, p, dx, N, ss, c, nm, jj, rfl, lvB.rv, hj, ?_⟩
                have le := List.length_eraseIdx_le ss jj
                have lvC := lvB.setR (rs2 := ss.eraseIdx jj) (nodup_erase nd) (by omega)
                exact ⟨D, ss.eraseIdx jj, c, _, _, _, _, _, rfl, lvC, by omega, fun s hs => sok s (List.mem_of_mem_eraseIdx hs), by omega⟩
            · refine ⟨_, rfl, rfl, _, rfl, ?_⟩
              by_cases hk1 : kd = 1
              · rw [decide_eq_true (by rw [hk1])]
                refine iteT ⟨_, rfl, NM, _, rfl, .inl (SqL.of lvA.hM), ?_⟩
                rw [lM]
                refine ⟨_, _, rfl, rfl, _, rfl, ?_⟩
                by_cases hl1 : (1 : Int) < ((ss.length : Nat) : Int)
                · rw [decide_eq_true hl1]
                  refine iteT ?_
                  refine ⟨_, rfl, _, rfl, NM, _, rfl, .inl (SqL.of lvA.hM), ?_⟩
                  rw [lM]
                  refine ⟨_, _, rfl, rfl, sa, sl, _, _, rfl, lvA.st, by omega, by omega, sm48 (by omega) (by omega), fun at_ HB at0 at1 SB kB => ?_⟩
                  have lvB := lvA.kept SB kB
                  have eat : at_ = ((at_.toNat : Nat) : Int) := (Int.toNat_of_nonneg at0).symm
                  have al : at_.toNat + 1 < ss.length := by omega
                  generalize at_.toNat = k at eat al
                  subst eat
                  obtain ⟨s0, hs0⟩ : ∃ s, ss[k]? = some s := ⟨_, List.getElem?_eq_getElem (by omega)⟩
                  obtain ⟨t0, ht0⟩ : ∃ s, ss[k + 1]? = some s := ⟨_, List.getElem?_eq_getElem al⟩
                  have a1 : atI (tx ss) (((k : Nat) : Int) + 1) = some (.str t0) := atI_nat (i := k + 1) (by rw [List.getElem?_map, ht0]; rfl)
                  have a0 : atI (tx ss) ((k : Nat) : Int) = some (.str s0) := atI_nat (by rw [List.getElem?_map, hs0]; rfl)
                  refine ⟨_, rfl, _, rfl, _, rfl, NM, _, rfl, SqL.of lvB.hM, fun q1 h1 => ?_⟩
                  rw [cut_pre]
                  have e1 : (tx ss).take k = tx (ss.take k) := List.map_take.symm
                  rw [e1]
                  have s1 := new_ (o := .lst (tx (ss.take k))) h1
                  have g1 : (upd HB q1 (.lst (tx (ss.take k)))) q1 = some (.lst (tx (ss.take k))) := upd_same
                  have lvC := lvB.same s1
                  generalize (upd HB q1 (.lst (tx (ss.take k)))) = HC at g1 lvC ⊢
                  refine ⟨_, rfl, _, rfl, _, _, rfl, rfl, NM, _, _, _, rfl, rfl, SqL.of lvC.hM, a1, _, rfl, _, rfl, NM, _, _, _, rfl, rfl, SqL.of lvC.hM, a0, by show 2 ≤ sizeLine; decide, fun q2 h2 => ?_⟩
                  have s2 := new_ (o := .lst [V.str t0, V.str s0]) h2
                  have g2 : (upd HC q2 (.lst [V.str t0, V.str s0])) q2 = some (.lst [V.str t0, V.str s0]) := upd_same
                  have lvD := lvC.same s2
                  have g1 := s2 _ _ g1
                  generalize (upd HC q2 (.lst [V.str t0, V.str s0])) = HD at g1 g2 lvD ⊢
                  refine ⟨_, _, _, _, rfl, rfl, g1, g2, by refine Nat.le_trans (m := 400) ?_ (by decide); simp [tx]; omega, fun q3 h3 => ?_⟩
                  have e3 : tx (ss.take k) ++ [V.str t0, V.str s0] = tx (ss.take k ++ [t0, s0]) := by simp [tx]
                  rw [e3]
                  have s3 := new_ (o := .lst (tx (ss.take k ++ [t0, s0]))) h3
                  have g3 : (upd HD q3 (.lst (tx (ss.take k ++ [t0, s0])))) q3 = some (.lst (tx (ss.take k ++ [t0, s0]))) := upd_same
                  have lvE := lvD.same s3
                  generalize (upd HD q3 (.lst (tx (ss.take k ++ [t0, s0])))) = HE at g3 lvE ⊢
                  refine ⟨_, rfl, _, rfl, _, _, rfl, rfl, _, rfl, NM, _, rfl, SqL.of lvE.hM, fun q4 h4 => ?_⟩
                  have ek : ((k : Nat) : Int) + 2 = ((k + 2 : Nat) : Int) := rfl
                  rw [ek, cut_suf]
                  have e4 : (tx ss).drop (k + 2) = tx (ss.drop (k + 2)) := List.map_drop.symm
                  rw [e4]
                  have s4 := new_ (o := .lst (tx (ss.drop (k + 2)))) h4
                  have g4 : (upd HE q4 (.lst (tx (ss.drop (k + 2))))) q4 = some (.lst (tx (ss.drop (k + 2)))) := upd_same
                  have lvF := lvE.same s4
                  have g3 := s4 _ _ g3
                  generalize (upd HE q4 (.lst (tx (ss.drop (k + 2))))) = HF at g3 g4 lvF ⊢
                  refine ⟨_, _, _, _, rfl, rfl, g3, g4, by refine Nat.le_trans (m := 400) ?_ (by decide); simp [tx]; omega, fun q5 h5 => ?_⟩
                  have e5 : tx (ss.take k ++ [t0, s0]) ++ tx (ss.drop (k + 2)) = tx ((ss.set k t0).set (k + 1) s0) := by
                    rw [exch_eq ss k hs0 ht0]
                    simp [tx]
                  rw [e5]
                  have s5 := new_ (o := .lst (tx ((ss.set k t0).set (k + 1) s0))) h5
                  have lvG := lvF.newM (ss2 := (ss.set k t0).set (k + 1) s0) upd_same h5 s5
                  generalize (upd HF q5 (.lst (tx ((ss.set k t0).set (k + 1) s0)))) = HG at lvG ⊢
                  refine ⟨_, rfl, _, _, rfl, rfl, _, rfl, p, dx, _, rfl, lvG.rv.1, fR_no _ _ (by decide +kernel) (by decide +kernel), _, rfl, p, dx, N, ss, c, k, s0, t0, rfl, lvG.rv, hs0, ht0, fun HH sH => ?_⟩
                  have lvH := lvG.same sH
                  have ndx : ((ss.set k t0).set (k + 1) s0).Nodup := by rw [exch_eq ss k hs0 ht0]; exact exch_nodup nd hs0 ht0
                  have lx : ((ss.set k t0).set (k + 1) s0).length = ss.length := by rw [List.length_set, List.length_set]
                  have lvI := (lvH.setR (rs2 := (ss.set k t0).set (k + 1) s0) ndx (by omega)).setC (c + 1)
                  refine ⟨_, _, rfl, q5, _, c + 1, _, _, _, _, _, rfl, lvI, by omega, fun s hs => ?_, by omega⟩
                  rcases List.mem_or_eq_of_mem_set hs with q | q
                  · rcases List.mem_or_eq_of_mem_set q with q | q
                    · exact sok s q
                    · rw [q]; exact sok _ (List.mem_of_getElem? ht0)
                  · rw [q]; exact sok _ (List.mem_of_getElem? hs0)
                · rw [decide_eq_false hl1]
                  refine iteF ?_
                  refine ⟨_, rfl, rfl, _, rfl, ifD_2 (fun hk2 => ?_) (fun hk2 => ?_)⟩
                  · obtain ⟨i1, i2, i3⟩ := idx_ok nd hj
                    refine ⟨_, rfl, _, rfl, .inl ⟨rfl, _, SqL.of lvA.hM⟩, _, rfl, NM, _, _, jj, _, rfl, rfl, SqL.of lvA.hM, rfl, tx_flat _, i1, i2, i3, _, _, rfl, rfl, ?_⟩
                    refine ⟨_, rfl, p, dx, _, rfl, lvA.rv.1, fR_no _ _ (by decide +kernel) (by decide +kernel), _, rfl, p, dx, N, ss, c, nm, jj, .non, rfl, lvA.rv, hj, .inl ⟨rfl, ?_⟩⟩
                    exact ⟨_, _, rfl, NM, ss, c + (jj : Nat), _, _, _, _, _, rfl, lvA.setC _, by omega, sok, by omega⟩
                  · obtain ⟨i1, i2, i3⟩ := idx_ok nd hj
                    refine ⟨_, rfl, .inl ⟨rfl, _, SqL.of lvA.hM⟩, _, rfl, NM, _, _, jj, _, rfl, rfl, SqL.of lvA.hM, rfl, tx_flat _, i1, i2, i3, ?_⟩
                    refine ⟨_, rfl, _, rfl, _, _, rfl, rfl, sa, sl, _, _, rfl, lvA.st, by omega, by omega, sm48 (by omega) (by omega), fun to_ HB to0 to1 SB kB => ?_⟩
                    have lvB := lvA.kept SB kB
                    have eto : to_ = ((to_.toNat : Nat) : Int) := (Int.toNat_of_nonneg to0).symm
                    have tl : to_.toNat ≤ jj := by omega
                    generalize to_.toNat = k at eto tl
                    subst eto
                    refine ⟨_, rfl, _, rfl, _, _, rfl, rfl, ?_⟩
                    refine ⟨_, rfl, _, rfl, _, rfl, NM, _, rfl, SqL.of lvB.hM, fun q1 h1 => ?_⟩
                    rw [cut_pre]
                    have e1 : (tx ss).take k = tx (ss.take k) := List.map_take.symm
                    rw [e1]
                    have s1 := new_ (o := .lst (tx (ss.take k))) h1
                    have g1 : (upd HB q1 (.lst (tx (ss.take k)))) q1 = some (.lst (tx (ss.take k))) := upd_same
                    have lvC := lvB.same s1
                    generalize (upd HB q1 (.lst (tx (ss.take k)))) = HC at g1 lvC ⊢
                    refine ⟨_, rfl, by show 1 ≤ sizeLine; decide, fun q2 h2 => ?_⟩
                    have s2 := new_ (o := .lst [V.str nm]) h2
                    have g2 : (upd HC q2 (.lst [V.str nm])) q2 = some (.lst [V.str nm]) := upd_same
                    have lvD := lvC.same s2
                    have g1 := s2 _ _ g1
                    generalize (upd HC q2 (.lst [V.str nm])) = HD at g1 g2 lvD ⊢
                    refine ⟨_, _, _, _, rfl, rfl, g1, g2, by refine Nat.le_trans (m := 400) ?_ (by decide); simp [tx]; omega, fun q3 h3 => ?_⟩
                    have e3 : tx (ss.take k) ++ [V.str nm] = tx (ss.take k ++ [nm]) := by simp [tx]
                    rw [e3]
                    have s3 := new_ (o := .lst (tx (ss.take k ++ [nm]))) h3
                    have g3 : (upd HD q3 (.lst (tx (ss.take k ++ [nm])))) q3 = some (.lst (tx (ss.take k ++ [nm]))) := upd_same
                    have lvE := lvD.same s3
                    generalize (upd HD q3 (.lst (tx (ss.take k ++ [nm])))) = HE at g3 lvE ⊢
                    refine ⟨_, rfl, _, rfl, _, rfl, _, rfl, _, rfl, _, rfl, NM, _, rfl, SqL.of lvE.hM, fun q4 h4 => ?_⟩
                    rw [cut_mid _ _ _ (by rw [lM]; omega) (by rw [lM]; omega)]
                    have e4 : ((tx ss).drop k).take (jj - k) = tx ((ss.drop k).take (jj - k)) := by rw [tx, tx, List.map_take, List.map_drop]
                    rw [e4]
                    have s4 := new_ (o := .lst (tx ((ss.drop k).take (jj - k)))) h4
                    have g4 : (upd HE q4 (.lst (tx ((ss.drop k).take (jj - k))))) q4 = some (.lst (tx ((ss.drop k).take (jj - k)))) := upd_same
                    have lvF := lvE.same s4
                    have g3 := s4 _ _ g3
                    generalize (upd HE q4 (.lst (tx ((ss.drop k).take (jj - k))))) = HF at g3 g4 lvF ⊢
                    refine ⟨_, _, _, _, rfl, rfl, g3, g4, by refine Nat.le_trans (m := 400) ?_ (by decide); simp [tx]; omega, fun q5 h5 => ?_⟩
                    have e5 : tx (ss.take k ++ [nm]) ++ tx ((ss.drop k).take (jj - k)) = tx (ss.take k ++ [nm] ++ (ss.drop k).take (jj - k)) := by simp [tx]
                    rw [e5]
                    have s5 := new_ (o := .lst (tx (ss.take k ++ [nm] ++ (ss.drop k).take (jj - k)))) h5
                    have g5 : (upd HF q5 (.lst (tx (ss.take k ++ [nm] ++ (ss.drop k).take (jj - k))))) q5 = some (.lst (tx (ss.take k ++ [nm] ++ (ss.drop k).take (jj - k)))) := upd_same
                    have lvG := lvF.same s5
                    generalize (upd HF q5 (.lst (tx (ss.take k ++ [nm] ++ (ss.drop k).take (jj - k))))) = HG at g5 lvG ⊢
                    refine ⟨_, rfl, _, rfl, _, _, rfl, rfl, _, rfl, NM, _, rfl, SqL.of lvG.hM, fun q6 h6 => ?_⟩
                    have ej : ((jj : Nat) : Int) + 1 = ((jj + 1 : Nat) : Int) := rfl
                    rw [ej, cut_suf]
                    have e6 : (tx ss).drop (jj + 1) = tx (ss.drop (jj + 1)) := List.map_drop.symm
                    rw [e6]
                    have s6 := new_ (o := .lst (tx (ss.drop (jj + 1)))) h6
                    have g6 : (upd HG q6 (.lst (tx (ss.drop (jj + 1))))) q6 = some (.lst (tx (ss.drop (jj + 1)))) := upd_same
                    have lvH := lvG.same s6
                    have g5 := s6 _ _ g5
                    generalize (upd HG q6 (.lst (tx (ss.drop (jj + 1))))) = HH at g5 g6 lvH ⊢
                    refine ⟨_, _, _, _, rfl, rfl, g5, g6, by refine Nat.le_trans (m := 400) ?_ (by decide); simp [tx]; omega, fun q7 h7 => ?_⟩
                    have e7 : tx (ss.take k ++ [nm] ++ (ss.drop k).take (jj - k)) ++ tx (ss.drop (jj + 1)) = tx ((ss.eraseIdx jj).take k ++ [nm] ++ (ss.eraseIdx jj).drop k) := by
                      rw [move_eq hj tl]
                      simp [tx]
                    rw [e7]
                    have s7 := new_ (o := .lst (tx ((ss.eraseIdx jj).take k ++ [nm] ++ (ss.eraseIdx jj).drop k))) h7
                    have lvI := lvH.newM (ss2 := (ss.eraseIdx jj).take k ++ [nm] ++ (ss.eraseIdx jj).drop k) upd_same h7 s7
                    generalize (upd HH q7 (.lst (tx ((ss.eraseIdx jj).take k ++ [nm] ++ (ss.eraseIdx jj).drop k)))) = HI at lvI ⊢
                    have pl : ((ss.eraseIdx jj).take k ++ [nm] ++ (ss.eraseIdx jj).drop k).Perm ss := by
                      rw [List.append_assoc, List.singleton_append]
                      refine (List.perm_middle (a := nm)).trans ?_
                      rw [List.take_append_drop]
                      exact perm_erase hj
                    refine ⟨_, rfl, p, dx, _, rfl, lvI.rv.1, fR_no _ _ (by decide +kernel) (by decide +kernel), _, rfl, _, rfl, p, dx, N, ss, c, nm, jj, .int (k : Nat), rfl, lvI.rv, hj, .inr ⟨k, rfl, tl, ?_⟩⟩
                    have lvJ := (lvI.setR (rs2 := (ss.eraseIdx jj).take k ++ [nm] ++ (ss.eraseIdx jj).drop k) (move_nodup nd hj k) (by rw [pl.length_eq]; omega)).setC (c + (jj : Nat))
                    exact ⟨q7, _, c + (jj : Nat), _, _, _, _, _, rfl, lvJ, by rw [pl.length_eq]; omega, fun s hs => sok s (pl.mem_iff.mp hs), by omega⟩
              · rw [decide_eq_false (fun q => hk1 (by injection q))]
                refine iteF (iteF ?_)
                refine ⟨_, rfl, rfl, _, rfl, ifD_2 (fun hk2 => ?_) (fun hk2 => ?_)⟩
                · obtain ⟨i1, i2, i3⟩ := idx_ok nd hj
                  refine ⟨_, rfl, _, rfl, .inl ⟨rfl, _, SqL.of lvA.hM⟩, _, rfl, NM, _, _, jj, _, rfl, rfl, SqL.of lvA.hM, rfl, tx_flat _, i1, i2, i3, _, _, rfl, rfl, ?_⟩
                  refine ⟨_, rfl, p, dx, _, rfl, lvA.rv.1, fR_no _ _ (by decide +kernel) (by decide +kernel), _, rfl, p, dx, N, ss, c, nm, jj, .non, rfl, lvA.rv, hj, .inl ⟨rfl, ?_⟩⟩
                  exact ⟨_, _, rfl, NM, ss, c + (jj : Nat), _, _, _, _, _, rfl, lvA.setC _, by omega, sok, by omega⟩
                · obtain ⟨i1, i2, i3⟩ := idx_ok nd hj
                  refine ⟨_, rfl, .inl ⟨rfl, _, SqL.of lvA.hM⟩, _, rfl, NM, _, _, jj, _, rfl, rfl, SqL.of lvA.hM, rfl, tx_flat _, i1, i2, i3, ?_⟩
                  refine ⟨_, rfl, _, rfl, _, _, rfl, rfl, sa, sl, _, _, rfl, lvA.st, by omega, by omega, sm48 (by omega) (by omega), fun to_ HB to0 to1 SB kB => ?_⟩
                  have lvB := lvA.kept SB kB
                  have eto : to_ = ((to_.toNat : Nat) : Int) := (Int.toNat_of_nonneg to0).symm
                  have tl : to_.toNat ≤ jj := by omega
                  generalize to_.toNat = k at eto tl
                  subst eto
                  refine ⟨_, rfl, _, rfl, _, _, rfl, rfl, ?_⟩
                  refine ⟨_, rfl, _, rfl, _, rfl, NM, _, rfl, SqL.of lvB.hM, fun q1 h1 => ?_⟩
                  rw [cut_pre]
                  have e1 : (tx ss).take k = tx (ss.take k) := List.map_take.symm
                  rw [e1]
                  have s1 := new_ (o := .lst (tx (ss.take k))) h1
                  have g1 : (upd HB q1 (.lst (tx (ss.take k)))) q1 = some (.lst (tx (ss.take k))) := upd_same
                  have lvC := lvB.same s1
                  generalize (upd HB q1 (.lst (tx (ss.take k)))) = HC at g1 lvC ⊢
                  refine ⟨_, rfl, by show 1 ≤ sizeLine; decide, fun q2 h2 => ?_⟩
                  have s2 := new_ (o := .lst [V.str nm]) h2
                  have g2 : (upd HC q2 (.lst [V.str nm])) q2 = some (.lst [V.str nm]) := upd_same
                  have lvD := lvC.same s2
                  have g1 := s2 _ _ g1
                  generalize (upd HC q2 (.lst [V.str nm])) = HD at g1 g2 lvD ⊢
                  refine ⟨_, _, _, _, rfl, rfl, g1, g2, by refine Nat.le_trans (m := 400) ?_ (by decide); simp [tx]; omega, fun q3 h3 => ?_⟩
                  have e3 : tx (ss.take k) ++ [V.str nm] = tx (ss.take k ++ [nm]) := by simp [tx]
                  rw [e3]
                  have s3 := new_ (o := .lst (tx (ss.take k ++ [nm]))) h3
                  have g3 : (upd HD q3 (.lst (tx (ss.take k ++ [nm])))) q3 = some (.lst (tx (ss.take k ++ [nm]))) := upd_same
                  have lvE := lvD.same s3
                  generalize (upd HD q3 (.lst (tx (ss.take k ++ [nm])))) = HE at g3 lvE ⊢
                  refine ⟨_, rfl, _, rfl, _, rfl, _, rfl, _, rfl, _, rfl, NM, _, rfl, SqL.of lvE.hM, fun q4 h4 => ?_⟩
                  rw [cut_mid _ _ _ (by rw [lM]; omega) (by rw [lM]; omega)]
                  have e4 : ((tx ss).drop k).take (jj - k) = tx ((ss.drop k).take (jj - k)) := by rw [tx, tx, List.map_take, List.map_drop]
                  rw [e4]
                  have s4 := new_ (o := .lst (tx ((ss.drop k).take (jj - k)))) h4
                  have g4 : (upd HE q4 (.lst (tx ((ss.drop k).take (jj - k))))) q4 = some (.lst (tx ((ss.drop k).take (jj - k)))) := upd_same
                  have lvF := lvE.same s4
                  have g3 := s4 _ _ g3
                  generalize (upd HE q4 (.lst (tx ((ss.drop k).take (jj - k))))) = HF at g3 g4 lvF ⊢
                  refine ⟨_, _, _, _, rfl, rfl, g3, g4, by refine Nat.le_trans (m := 400) ?_ (by decide); simp [tx]; omega, fun q5 h5 => ?_⟩
                  have e5 : tx (ss.take k ++ [nm]) ++ tx ((ss.drop k).take (jj - k)) = tx (ss.take k ++ [nm] ++ (ss.drop k).take (jj - k)) := by simp [tx]
                  rw [e5]
                  have s5 := new_ (o := .lst (tx (ss.take k ++ [nm] ++ (ss.drop k).take (jj - k)))) h5
                  have g5 : (upd HF q5 (.lst (tx (ss.take k ++ [nm] ++ (ss.drop k).take (jj - k))))) q5 = some (.lst (tx (ss.take k ++ [nm] ++ (ss.drop k).take (jj - k)))) := upd_same
                  have lvG := lvF.same s5
                  generalize (upd HF q5 (.lst (tx (ss.take k ++ [nm] ++ (ss.drop k).take (jj - k))))) = HG at g5 lvG ⊢
                  refine ⟨_, rfl, _, rfl, _, _, rfl, rfl, _, rfl, NM, _, rfl, SqL.of lvG.hM, fun q6 h6 => ?_⟩
                  have ej : ((jj : Nat) : Int) + 1 = ((jj + 1 : Nat) : Int) := rfl
                  rw [ej, cut_suf]
                  have e6 : (tx ss).drop (jj + 1) = tx (ss.drop (jj + 1)) := List.map_drop.symm
                  rw [e6]
                  have s6 := new_ (o := .lst (tx (ss.drop (jj + 1)))) h6
                  have g6 : (upd HG q6 (.lst (tx (ss.drop (jj + 1))))) q6 = some (.lst (tx (ss.drop (jj + 1)))) := upd_same
                  have lvH := lvG.same s6
                  have g5 := s6 _ _ g5
                  generalize (upd HG q6 (.lst (tx (ss.drop (jj + 1))))) = HH at g5 g6 lvH ⊢
                  refine ⟨_, _, _, _, rfl, rfl, g5, g6, by refine Nat.le_trans (m := 400) ?_ (by decide); simp [tx]; omega, fun q7 h7 => ?_⟩
                  have e7 : tx (ss.take k ++ [nm] ++ (ss.drop k).take (jj - k)) ++ tx (ss.drop (jj + 1)) = tx ((ss.eraseIdx jj).take k ++ [nm] ++ (ss.eraseIdx jj).drop k) := by
                    rw [move_eq hj tl]
                    simp [tx]
                  rw [e7]
                  have s7 := new_ (o := .lst (tx ((ss.eraseIdx jj).take k ++ [nm] ++ (ss.eraseIdx jj).drop k))) h7
                  have lvI := lvH.newM (ss2 := (ss.eraseIdx jj).take k ++ [nm] ++ (ss.eraseIdx jj).drop k) upd_same h7 s7
                  generalize (upd HH q7 (.lst (tx ((ss.eraseIdx jj).take k ++ [nm] ++ (ss.eraseIdx jj).drop k)))) = HI at lvI ⊢
                  have pl : ((ss.eraseIdx jj).take k ++ [nm] ++ (ss.eraseIdx jj).drop k).Perm ss := by
                    rw [List.append_assoc, List.singleton_append]
                    refine (List.perm_middle (a := nm)).trans ?_
                    rw [List.take_append_drop]
                    exact perm_erase hj
                  refine ⟨_, rfl, p, dx, _, rfl, lvI.rv.1, fR_no _ _ (by decide +kernel) (by decide +kernel), _, rfl, _, rfl, p, dx, N, ss, c, nm, jj, .int (k : Nat), rfl, lvI.rv, hj, .inr ⟨k, rfl, tl, ?_⟩⟩
                  have lvJ := (lvI.setR (rs2 := (ss.eraseIdx jj).take k ++ [nm] ++ (ss.eraseIdx jj).drop k) (move_nodup nd hj k) (by rw [pl.length_eq]; omega)).setC (c + (jj : Nat))
                  exact ⟨q7, _, c + (jj : Nat), _, _, _, _, _, rfl, lvJ, by rw [pl.length_eq]; omega, fun s hs => sok s (pl.mem_iff.mp hs), by omega⟩
          · rw [decide_eq_false hm]
            refine iteT ?_
            refine ⟨_, rfl, _, rfl, NM, _, rfl, .inl (SqL.of lvA.hM), ?_⟩
            rw [lM]
            refine ⟨_, _, rfl, rfl, sa, sl, _, _, rfl, lvA.st, by omega, by omega, sm48 (by omega) (by omega), fun at_ HB at0 at1 SB kB => ?_⟩
            have lvB := lvA.kept SB kB
            have eat : at_ = ((at_.toNat : Nat) : Int) := (Int.toNat_of_nonneg at0).symm
            have al : at_.toNat ≤ ss.length := by omega
            generalize at_.toNat = k at eat al
            subst eat
            refine ⟨_, rfl, .inl ⟨rfl, _, SqL.of lvB.hM⟩, _, rfl, _, rfl, NM, tx ss, (k : Nat), .str nm, rfl, rfl, lvB.hM, ?_, by omega, by omega, ?_⟩
            · rw [lM]
              exact Nat.lt_of_le_of_lt l60 (by decide)
            have e : (tx ss).take ((k : Nat) : Int).toNat ++ [V.str nm] ++ (tx ss).drop ((k : Nat) : Int).toNat = tx (ss.take k ++ [nm] ++ ss.drop k) := by
              rw [Int.toNat_natCast]
              simp [tx]
            rw [e]
            have lvC := lvB.setM (ss2 := ss.take k ++ [nm] ++ ss.drop k)
            refine ⟨_, rfl, p, dx, _, rfl, lvC.rv.1, fR_no _ _ (by decide +kernel) (by decide +kernel), _, rfl, _, rfl, p, dx, N, ss, c, nm, k, rfl, lvC.rv, hm, al, ?_⟩
            have lvD := lvC.setR (rs2 := ss.take k ++ [nm] ++ ss.drop k) (put_nodup lvA.rv.2.2.1 hm) (by simp; omega)
            refine ⟨NM, ss.take k ++ [nm] ++ ss.drop k, c, _, _, _, _, _, rfl, lvD, by simp; omega, fun s hs => ?_, by omega⟩
            simp only [List.mem_append, List.mem_singleton] at hs
            rcases hs with (hs | hs) | hs
            · exact sok s (List.mem_of_mem_take hs)
            · rw [hs]; exact hPo nm hnm
            · exact sok s (List.mem_of_mem_drop hs)
        rintro _ HB ⟨NM, ss, c, n2, x10, x12, x13, x14, rfl, lv2, hl2, sok2, hn2⟩
        clear lvA lv
        have l60 : ss.length ≤ 60 := by omega
        have lM : (tx ss).length = ss.length := List.length_map ..
        refine ⟨fun σ' H' => σ' = [some (.ref a), some (.ref sa), some (.ref PL), some (.ref NM), some (.int c), some (.ref GV), some (.ref p), some (.int (0 + (i : Int))), some (.int kd), some (.str nm), x10, some .non, x12, x13, x14, none] ∧ Same HB H', ?_, ?_⟩
        · refine ⟨_, rfl, rfl, _, rfl, iteF ?_⟩
          refine ⟨_, rfl, p, dx, _, rfl, lv2.rv.1, p, dx, N, ss, c, rfl, lv2.rv, fun q hq => ?_⟩
          have eq_ := new_ (o := .lst (tx ss)) hq
          have lvq := lv2.same eq_
          refine ⟨_, rfl, .ref q, .ref NM, rfl, .strs upd_same lvq.hM l60, fun HC sC => ⟨_, rfl, iteF ?_⟩⟩
          have lvC := lvq.same sC
          exact ⟨_, rfl, p, C, dx, _, _, rfl, lvC.rv.1, R.cl, R.nC, fR_cost _ _, _, rfl, .int c, .int c, rfl, .int _ _, fun HD sD => ⟨_, rfl, iteF ⟨rfl, (eq_.trans sC).trans sD⟩⟩⟩
        rintro _ HC ⟨rfl, sBC⟩
        have lv3 := lv2.same sBC
        clear lv2
        refine ⟨_, rfl, p, dx, _, rfl, lv3.rv.1, p, dx, N, ss, c, rfl, lv3.rv, fun q hq => ?_⟩
        refine ⟨.inl ⟨rfl, _, SqL.of upd_same⟩, q, tx ss, _, rfl, rfl, upd_same, ?_, ?_⟩
        · rw [lM]
          exact Nat.lt_of_le_of_lt l60 (by decide)
        rw [upd_upd]
        have lv4 := lv3.same (new_ (o := .lst (tx ss ++ [V.str "x"])) hq)
        generalize (upd HC q (.lst (tx ss ++ [V.str "x"]))) = HD at lv4 ⊢
        clear lv3
        refine ⟨_, rfl, p, dx, _, rfl, lv4.rv.1, p, dx, N, ss, c, rfl, lv4.rv, ss.length, rfl, by omega, ?_⟩
        refine ⟨_, rfl, NM, _, rfl, .inl (SqL.of lv4.hM), ?_⟩
        rw [lM]
        refine ⟨rfl, _, rfl, ifNo rfl ?_⟩
        refine ⟨_, rfl, PL, rfl, ⟨_, SqL.of lv4.hP⟩, fun D hD => ?_⟩
        refine lc_list (xs := tx pool) (fun m H' => Same HD H' ∧ H' D = some (.lst ((List.replicate m true).map V.bl))) ⟨new_ hD, upd_same⟩ (fun m H' _ q => SqL.of (q.1 _ _ lv4.hP)) ?_ ?_
        · rintro m x HE hx ⟨sE, hdE⟩
          have hml := (List.getElem?_eq_some_iff.mp hx).1
          rw [List.getElem?_map, Option.map_eq_some_iff] at hx
          obtain ⟨z, hz, rfl⟩ := hx
          have lvE := lv4.same sE
          refine ⟨rfl, ?_⟩
          dsimp only [tYes]
          rw [if_pos rfl]
          refine ⟨_, rfl, _, rfl, p, dx, _, rfl, lvE.rv.1, p, dx, N, ss, c, z, rfl, lvE.rv, ?_⟩
          refine ⟨_, rfl, _, rfl, _, rfl, NM, _, rfl, .inl (SqL.of lvE.hM), rfl, tx_flat _, ?_⟩
          show rEq _ (V.bl (inV (.str z) (tx ss))) _ _
          rw [inV_tx]
          refine ⟨rfl, ?_⟩
          rw [decide_eq_true rfl]
          refine ⟨_, hdE, ?_, fun b u q => ?_, ?_⟩
          · rw [List.length_map, List.length_replicate]
            rw [List.length_map, hPl] at hml
            exact Nat.lt_of_lt_of_le hml (by decide)
          · rw [upd_ne (ne_of_none q hD)]
            exact sE _ _ q
          · rw [upd_same, List.replicate_succ', List.map_append]
            rfl
        · rintro HE ⟨sE, hdE⟩
          refine ⟨D, _, rfl, SqL.of hdE, ?_⟩
          have ea : (List.replicate (tx pool).length true).all id = true := by
            rw [List.all_eq_true]
            intro x hx
            rw [(List.mem_replicate.mp hx).2]
            rfl
          rw [ea]
          refine ⟨_, rfl, iteF ?_⟩
          exact ⟨NM, ss, c, n2, _, _, _, _, _, _, _, _, rfl, lv4.same sE, by omega, sok2, by omega⟩
      · rintro σ' H' ⟨NM, ss, c, n, x7, x8, x9, x10, x11, x12, x13, x14, rfl, lv, hl, sok, hn⟩
        exact ⟨NM, ss, c, n, x7, x8, x9, x10, x11, x12, x13, x14, rfl, lv, by omega, sok⟩
    rintro _ H7 ⟨NM, ss, c, n, x7, x8, x9, x10, x11, x12, x13, x14, rfl, lv, hl, sok⟩
    refine ⟨_, rfl, p, dx, _, rfl, lv.rv.1, p, dx, N, ss, c, rfl, lv.rv, fun q hq => ?_⟩
    have eq_ := new_ (o := .lst (tx ss)) hq
    exact ⟨_, rfl, .ref q, .ref NM, rfl, .strs upd_same (eq_ _ _ lv.hM) (by omega), fun HA _ => kk HA⟩
end
end PA

set_option maxHeartbeats 8000000
namespace PA
open PySem L2 RZ
theorem kit_self {K : PySem.W.Frag} {C : Addr} : PySem.W.kitOne K (.ref C) (.ref C) = some true := by
  unfold PySem.W.kitOne
  rw [if_pos (by simp)]
theorem kit_2 {K : PySem.W.Frag} {C D : Addr} (h1 : (Value.ref D == Value.ref C) = false) (h2 : PySem.W.isClsIn K C = true) (h3 : PySem.W.typeIn K (.ref C) = some (.type "type")) (h4 : PySem.W.subIn K (.ref D) (.ref C) = some false) : PySem.W.kitOne K (.ref D) (.ref C) = some false := by
  have e2 : ((PySem.W.clsIn K C).isSome && PySem.W.typeIn K (.ref C) == some (.type "type")) = true := by
    have h2' : (PySem.W.clsIn K C).isSome = true := h2
    rw [h2', h3] <;> rfl
  unfold PySem.W.kitOne
  rw [h1, if_neg (by simp)]
  show (if ((PySem.W.clsIn K C).isSome && PySem.W.typeIn K (.ref C) == some (.type "type")) = true then PySem.W.subIn K (.ref D) (.ref C) else none) = some false
  rw [if_pos e2]
  exact h4
theorem exm_2 {K : PySem.W.Frag} {S P : Addr} (h1 : PySem.W.subIn K (.ref P) (.type "BaseException") = some true) (h2 : PySem.W.isClsIn K P = true) (h3 : PySem.W.typeIn K (.ref P) = some (.type "type")) (h4 : PySem.W.subIn K (.ref S) (.ref P) = some true) :
    PySem.W.exmOne K (.ref S) (.ref P) = some true := by
  have e2 : ((PySem.W.clsIn K P).isSome && PySem.W.typeIn K (.ref P) == some (.type "type")) = true := by
    have h2' : (PySem.W.clsIn K P).isSome = true := h2
    rw [h2', h3] <;> rfl
  unfold PySem.W.exmOne
  rw [h1, if_pos (by simp)]
  show (if ((PySem.W.clsIn K P).isSome && PySem.W.typeIn K (.ref P) == some (.type "type")) = true then PySem.W.subIn K (.ref S) (.ref P) else none) = some true
  rw [if_pos e2]
  exact h4
theorem kit_cls {K : PySem.W.Frag} {C : Addr} {t : String} (h2 : PySem.W.isClsIn K C = true) (h3 : PySem.W.typeIn K (.ref C) = some (.type "type")) (h4 : PySem.W.subIn K (.type t) (.ref C) = some false) : PySem.W.kitOne K (.type t) (.ref C) = some false := by
  have e2 : ((PySem.W.clsIn K C).isSome && PySem.W.typeIn K (.ref C) == some (.type "type")) = true := by
    have h2' : (PySem.W.clsIn K C).isSome = true := h2
    rw [h2', h3] <;> rfl
  unfold PySem.W.kitOne
  rw [if_neg (by simp)]
  show (if ((PySem.W.clsIn K C).isSome && PySem.W.typeIn K (.ref C) == some (.type "type")) = true then PySem.W.subIn K (.type t) (.ref C) else none) = some false
  rw [if_pos e2]
  exact h4
theorem bC2_of {K : PySem.W.Frag} {f : Addr} {fd : FuncData} (F : FunC K f fd) : Binds K fd ["self", "name", "to"] [] := by
  obtain ⟨ds, hv, hb⟩ := F.binds1 (ps := ["self", "name", "to"]) 3 1 (by simp) rfl (fun T kV doc pm an cdv ct us its h1 h2 => match us, h1, its, h2 with | [_, _, _], _, [_], _ => ⟨_, rfl, rfl⟩)
  cases hv
  exact hb
theorem bC1_of {K : PySem.W.Frag} {f : Addr} {fd : FuncData} (F : FunC K f fd) : Binds K fd ["self", "name", "to"] [Value.none] := by
  obtain ⟨ds, hv, hb⟩ := F.binds1 (ps := ["self", "name", "to"]) 2 0 (by simp) rfl (fun T kV doc pm an cdv ct us its h1 h2 => match us, h1, its, h2 with | [_, _], _, [_], _ => ⟨_, rfl, rfl⟩)
  cases hv with
  | cons r rr =>
    cases rr
    cases (show _ = Value.none from r)
    exact hb
theorem all_mk {l : PySem.W.OpenLaw} {w : World} {K : PySem.W.Frag} {h : Heap} {mg : Str → Option Value} {fa C gInit pO gOrder gHas gLen TT gCall gExch gPut gDrop gPlace gdraw gstart gpick gmixed gsame gnames gLaw : Addr} (X_ : K.In h) (G : h.Ns mainGlobals mg) (hfa : mg "law" = some (.ref fa))
    {ocInit kVInit dcInit pmInit cdInit ctInit : Value} {odInit anInit : Option Addr} {slInit : Array (Option Value)} {restO : List Value} {ocOrder kVOrder dcOrder pmOrder cdOrder ctOrder : Value} {odOrder anOrder : Option Addr} {slOrder : Array (Option Value)} {ocHas kVHas dcHas pmHas cdHas ctHas : Value} {odHas anHas : Option Addr} {slHas : Array (Option Value)} {ocLen kVLen dcLen pmLen cdLen ctLen : Value} {odLen anLen : Option Addr} {slLen : Array (Option Value)} {oT : Value} {odT : Option Addr} {mT : Nat} {slT : Array (Option Value)} {ocCall kVCall dcCall pmCall cdCall ctCall : Value} {odCall anCall : Option Addr} {slCall : Array (Option Value)} {ocExch kVExch dcExch pmExch cdExch ctExch : Value} {odExch anExch : Option Addr} {slExch : Array (Option Value)} {ocPut kVPut dcPut pmPut cdPut ctPut : Value} {odPut anPut : Option Addr} {slPut : Array (Option Value)} {ocDrop kVDrop dcDrop pmDrop cdDrop ctDrop : Value} {odDrop anDrop : Option Addr} {slDrop : Array (Option Value)} {ocPlace kVPlace dcPlace pmPlace cdPlace ctPlace : Value} {odPlace anPlace : Option Addr} {slPlace : Array (Option Value)} {ocdraw kVdraw dcdraw pmdraw cddraw ctdraw : Value} {oddraw andraw : Option Addr} {sldraw : Array (Option Value)} {ocstart kVstart dcstart pmstart cdstart ctstart : Value} {odstart anstart : Option Addr} {slstart : Array (Option Value)} {ocpick kVpick dcpick pmpick cdpick ctpick : Value} {odpick anpick : Option Addr} {slpick : Array (Option Value)} {ocmixed kVmixed dcmixed pmmixed cdmixed ctmixed : Value} {odmixed anmixed : Option Addr} {slmixed : Array (Option Value)} {ocsame kVsame dcsame pmsame cdsame ctsame : Value} {odsame ansame : Option Addr} {slsame : Array (Option Value)} {ocnames kVnames dcnames pmnames cdnames ctnames : Value} {odnames annames : Option Addr} {slnames : Array (Option Value)} {ocLaw kVLaw dcLaw pmLaw cdLaw ctLaw : Value} {odLaw anLaw : Option Addr} {slLaw : Array (Option Value)}
    (aC : PySem.W.nsIn K mainGlobals "Rival" = some (some (.ref C)))
    (pgC : PySem.W.plainGet K C Str.empty = true)
    (hdC : PySem.W.hasDictIn K C = true)
    (poC : PySem.W.plainOver K C = true)
    (saC : PySem.W.findIn K (.ref C) "__setattr__" = some (some (.builtin "object.__setattr__")))
    (kcC : PySem.W.keepIn K (.ref C) = true)
    (mkC : PySem.W.makesIn K C = true)
    (nCnames : PySem.W.findIn K (.ref C) "names" = some none)
    (nCcost : PySem.W.findIn K (.ref C) "cost" = some none)
    (zisinstance : PySem.W.nsIn K mainGlobals "isinstance" = some none)
    (zint : PySem.W.nsIn K mainGlobals "int" = some none)
    (zbool : PySem.W.nsIn K mainGlobals "bool" = some none)
    (zlist : PySem.W.nsIn K mainGlobals "list" = some none)
    (ztuple : PySem.W.nsIn K mainGlobals "tuple" = some none)
    (zlen : PySem.W.nsIn K mainGlobals "len" = some none)
    (zall : PySem.W.nsIn K mainGlobals "all" = some none)
    (zzip : PySem.W.nsIn K mainGlobals "zip" = some none)
    (zrange : PySem.W.nsIn K mainGlobals "range" = some none)
    (aInit : PySem.W.findIn K (.ref C) "__init__" = some (some (.ref gInit)))
    (lInit : K.lookup gInit = some ⟨ocInit, odInit, .func (PySem.W.fnOf "__init__" "Rival.__init__" (defArgs sInit) (defBody sInit) (defScope sInit) .none kVInit dcInit pmInit anInit cdInit ctInit), slInit⟩)
    (cInit : PySem.W.codeIn K cdInit "Rival.__init__" = true)
    (kInit : PySem.W.keepIn K (.ref gInit) = true)
    (iInit : PySem.W.isFn K (.ref gInit) = true)
    (ap : PySem.W.findIn K (.ref C) "order" = some (some (.ref pO)))
    (gp : PySem.W.specialIn K (.ref pO) "__get__" = some (some (.builtin "property.__get__")))
    (tp : PySem.W.takesIn K (.ref pO) = some true)
    (aOrder : PySem.W.recIn K pO "property" = some (.ref gOrder :: restO))
    (lOrder : K.lookup gOrder = some ⟨ocOrder, odOrder, .func (PySem.W.fnOf "order" "Rival.order" (defArgs sOrder) (defBody sOrder) (defScope sOrder) .none kVOrder dcOrder pmOrder anOrder cdOrder ctOrder), slOrder⟩)
    (cOrder : PySem.W.codeIn K cdOrder "Rival.order" = true)
    (kOrder : PySem.W.keepIn K (.ref gOrder) = true)
    (aHas : PySem.W.findIn K (.ref C) "__contains__" = some (some (.ref gHas)))
    (lHas : K.lookup gHas = some ⟨ocHas, odHas, .func (PySem.W.fnOf "__contains__" "Rival.__contains__" (defArgs sHas) (defBody sHas) (defScope sHas) .none kVHas dcHas pmHas anHas cdHas ctHas), slHas⟩)
    (cHas : PySem.W.codeIn K cdHas "Rival.__contains__" = true)
    (kHas : PySem.W.keepIn K (.ref gHas) = true)
    (iHas : PySem.W.isFn K (.ref gHas) = true)
    (aLen : PySem.W.findIn K (.ref C) "__len__" = some (some (.ref gLen)))
    (lLen : K.lookup gLen = some ⟨ocLen, odLen, .func (PySem.W.fnOf "__len__" "Rival.__len__" (defArgs sLen) (defBody sLen) (defScope sLen) .none kVLen dcLen pmLen anLen cdLen ctLen), slLen⟩)
    (cLen : PySem.W.codeIn K cdLen "Rival.__len__" = true)
    (kLen : PySem.W.keepIn K (.ref gLen) = true)
    (iLen : PySem.W.isFn K (.ref gLen) = true)
    (aCall : PySem.W.findIn K (.ref C) "call" = some (some (.ref gCall)))
    (lCall : K.lookup gCall = some ⟨ocCall, odCall, .func (PySem.W.fnOf "call" "Rival.call" (defArgs sCall) (defBody sCall) (defScope sCall) (.ref TT) kVCall dcCall pmCall anCall cdCall ctCall), slCall⟩)
    (cCall : PySem.W.codeIn K cdCall "Rival.call" = true)
    (kCall : PySem.W.keepIn K (.ref gCall) = true)
    (iCall : PySem.W.isFn K (.ref gCall) = true)
    (lT : K.lookup TT = some ⟨oT, odT, .seq #[.none] mT, slT⟩)
    (aExch : PySem.W.findIn K (.ref C) "exchange" = some (some (.ref gExch)))
    (lExch : K.lookup gExch = some ⟨ocExch, odExch, .func (PySem.W.fnOf "exchange" "Rival.exchange" (defArgs sExch) (defBody sExch) (defScope sExch) .none kVExch dcExch pmExch anExch cdExch ctExch), slExch⟩)
    (cExch : PySem.W.codeIn K cdExch "Rival.exchange" = true)
    (kExch : PySem.W.keepIn K (.ref gExch) = true)
    (iExch : PySem.W.isFn K (.ref gExch) = true)
    (aPut : PySem.W.findIn K (.ref C) "put" = some (some (.ref gPut)))
    (lPut : K.lookup gPut = some ⟨ocPut, odPut, .func (PySem.W.fnOf "put" "Rival.put" (defArgs sPut) (defBody sPut) (defScope sPut) .none kVPut dcPut pmPut anPut cdPut ctPut), slPut⟩)
    (cPut : PySem.W.codeIn K cdPut "Rival.put" = true)
    (kPut : PySem.W.keepIn K (.ref gPut) = true)
    (iPut : PySem.W.isFn K (.ref gPut) = true)
    (aDrop : PySem.W.findIn K (.ref C) "drop" = some (some (.ref gDrop)))
    (lDrop : K.lookup gDrop = some ⟨ocDrop, odDrop, .func (PySem.W.fnOf "drop" "Rival.drop" (defArgs sDrop) (defBody sDrop) (defScope sDrop) .none kVDrop dcDrop pmDrop anDrop cdDrop ctDrop), slDrop⟩)
    (cDrop : PySem.W.codeIn K cdDrop "Rival.drop" = true)
    (kDrop : PySem.W.keepIn K (.ref gDrop) = true)
    (iDrop : PySem.W.isFn K (.ref gDrop) = true)
    (aPlace : PySem.W.findIn K (.ref C) "_place" = some (some (.ref gPlace)))
    (lPlace : K.lookup gPlace = some ⟨ocPlace, odPlace, .func (PySem.W.fnOf "_place" "Rival._place" (defArgs sPlace) (defBody sPlace) (defScope sPlace) .none kVPlace dcPlace pmPlace anPlace cdPlace ctPlace), slPlace⟩)
    (cPlace : PySem.W.codeIn K cdPlace "Rival._place" = true)
    (kPlace : PySem.W.keepIn K (.ref gPlace) = true)
    (iPlace : PySem.W.isFn K (.ref gPlace) = true)
    (adraw : PySem.W.nsIn K mainGlobals "_law_draw" = some (some (.ref gdraw)))
    (ldraw : K.lookup gdraw = some ⟨ocdraw, oddraw, .func (PySem.W.fnOf "_law_draw" "_law_draw" (defArgs sDraw) (defBody sDraw) (defScope sDraw) .none kVdraw dcdraw pmdraw andraw cddraw ctdraw), sldraw⟩)
    (cdraw : PySem.W.codeIn K cddraw "_law_draw" = true)
    (kdraw : PySem.W.keepIn K (.ref gdraw) = true)
    (astart : PySem.W.nsIn K mainGlobals "_law_start" = some (some (.ref gstart)))
    (lstart : K.lookup gstart = some ⟨ocstart, odstart, .func (PySem.W.fnOf "_law_start" "_law_start" (defArgs sStart) (defBody sStart) (defScope sStart) .none kVstart dcstart pmstart anstart cdstart ctstart), slstart⟩)
    (cstart : PySem.W.codeIn K cdstart "_law_start" = true)
    (kstart : PySem.W.keepIn K (.ref gstart) = true)
    (apick : PySem.W.nsIn K mainGlobals "_law_pick" = some (some (.ref gpick)))
    (lpick : K.lookup gpick = some ⟨ocpick, odpick, .func (PySem.W.fnOf "_law_pick" "_law_pick" (defArgs sPick) (defBody sPick) (defScope sPick) .none kVpick dcpick pmpick anpick cdpick ctpick), slpick⟩)
    (cpick : PySem.W.codeIn K cdpick "_law_pick" = true)
    (kpick : PySem.W.keepIn K (.ref gpick) = true)
    (amixed : PySem.W.nsIn K mainGlobals "_law_mixed" = some (some (.ref gmixed)))
    (lmixed : K.lookup gmixed = some ⟨ocmixed, odmixed, .func (PySem.W.fnOf "_law_mixed" "_law_mixed" (defArgs sMixed) (defBody sMixed) (defScope sMixed) .none kVmixed dcmixed pmmixed anmixed cdmixed ctmixed), slmixed⟩)
    (cmixed : PySem.W.codeIn K cdmixed "_law_mixed" = true)
    (kmixed : PySem.W.keepIn K (.ref gmixed) = true)
    (asame : PySem.W.nsIn K mainGlobals "_law_same" = some (some (.ref gsame)))
    (lsame : K.lookup gsame = some ⟨ocsame, odsame, .func (PySem.W.fnOf "_law_same" "_law_same" (defArgs sSame) (defBody sSame) (defScope sSame) .none kVsame dcsame pmsame ansame cdsame ctsame), slsame⟩)
    (csame : PySem.W.codeIn K cdsame "_law_same" = true)
    (ksame : PySem.W.keepIn K (.ref gsame) = true)
    (anames : PySem.W.nsIn K mainGlobals "_law_p_names" = some (some (.ref gnames)))
    (lnames : K.lookup gnames = some ⟨ocnames, odnames, .func (PySem.W.fnOf "_law_p_names" "_law_p_names" (defArgs sNames) (defBody sNames) (defScope sNames) .none kVnames dcnames pmnames annames cdnames ctnames), slnames⟩)
    (cnames : PySem.W.codeIn K cdnames "_law_p_names" = true)
    (knames : PySem.W.keepIn K (.ref gnames) = true)
    (aLaw : PySem.W.nsIn K mainGlobals "law" = some (some (.ref gLaw)))
    (lLaw : K.lookup gLaw = some ⟨ocLaw, odLaw, .func (PySem.W.fnOf "law" "law" (defArgs sLaw) (defBody sLaw) (defScope sLaw) .none kVLaw dcLaw pmLaw anLaw cdLaw ctLaw), slLaw⟩)
    (cLaw : PySem.W.codeIn K cdLaw "law" = true)
    (kLaw : PySem.W.keepIn K (.ref gLaw) = true) :
    ∃ fd : FuncData, (∀ (s : Shared) (v : Value), BindsTo s fd ⟨[v], []⟩ [("_law_script", v)]) ∧ ∀ base : Heap, K.In base → base.Ns mainGlobals mg → FnOk l.prog w K mg base CX0 5 fa fd ["_law_script"] (spLaw K) := by
  have e := hfa.symm.trans (PySem.W.mg_of X_ G aLaw)
  cases e
  have FInit := fun_mk (st := sInit) lInit cInit kInit
  have bInit := FInit.binds (ps := ["self", "names"]) fun _ _ _ _ _ _ us hl => match us, hl with | [_, _], _ => rfl
  have FOrder := fun_mk (st := sOrder) lOrder cOrder kOrder
  have bOrder := FOrder.binds (ps := ["self"]) fun _ _ _ _ _ _ us hl => match us, hl with | [_], _ => rfl
  have FHas := fun_mk (st := sHas) lHas cHas kHas
  have bHas := FHas.binds (ps := ["self", "name"]) fun _ _ _ _ _ _ us hl => match us, hl with | [_, _], _ => rfl
  have FLen := fun_mk (st := sLen) lLen cLen kLen
  have bLen := FLen.binds (ps := ["self"]) fun _ _ _ _ _ _ us hl => match us, hl with | [_], _ => rfl
  have FCall : FunC K gCall (PySem.W.fnOf "call" "Rival.call" (defArgs sCall) (defBody sCall) (defScope sCall) (.ref TT) kVCall dcCall pmCall anCall cdCall ctCall) := ⟨⟨_, _, _, _, _, _, _, _, _, _, rfl, lCall, cCall, .inr ⟨by simp, TT, _, [.none], mT, rfl, lT, rfl, .cons rfl .nil⟩, .inl rfl⟩, kCall⟩
  have FExch := fun_mk (st := sExch) lExch cExch kExch
  have bExch := FExch.binds (ps := ["self", "at"]) fun _ _ _ _ _ _ us hl => match us, hl with | [_, _], _ => rfl
  have FPut := fun_mk (st := sPut) lPut cPut kPut
  have bPut := FPut.binds (ps := ["self", "name", "at"]) fun _ _ _ _ _ _ us hl => match us, hl with | [_, _, _], _ => rfl
  have FDrop := fun_mk (st := sDrop) lDrop cDrop kDrop
  have bDrop := FDrop.binds (ps := ["self", "name"]) fun _ _ _ _ _ _ us hl => match us, hl with | [_, _], _ => rfl
  have FPlace := fun_mk (st := sPlace) lPlace cPlace kPlace
  have bPlace := FPlace.binds (ps := ["self", "name"]) fun _ _ _ _ _ _ us hl => match us, hl with | [_, _], _ => rfl
  have Fdraw := fun_mk (st := sDraw) ldraw cdraw kdraw
  have bdraw := Fdraw.binds (ps := ["_law_stream", "_law_many"]) fun _ _ _ _ _ _ us hl => match us, hl with | [_, _], _ => rfl
  have Fstart := fun_mk (st := sStart) lstart cstart kstart
  have bstart := Fstart.binds (ps := ["_law_script"]) fun _ _ _ _ _ _ us hl => match us, hl with | [_], _ => rfl
  have Fpick := fun_mk (st := sPick) lpick cpick kpick
  have bpick := Fpick.binds (ps := ["_law_stream", "_law_some"]) fun _ _ _ _ _ _ us hl => match us, hl with | [_, _], _ => rfl
  have Fmixed := fun_mk (st := sMixed) lmixed cmixed kmixed
  have bmixed := Fmixed.binds (ps := ["_law_stream", "_law_some"]) fun _ _ _ _ _ _ us hl => match us, hl with | [_, _], _ => rfl
  have Fsame := fun_mk (st := sSame) lsame csame ksame
  have bsame := Fsame.binds (ps := ["_law_found", "_law_due"]) fun _ _ _ _ _ _ us hl => match us, hl with | [_, _], _ => rfl
  have Fnames := fun_mk (st := sNames) lnames cnames knames
  have bnames := Fnames.binds (ps := ["_law_stream", "_law_many"]) fun _ _ _ _ _ _ us hl => match us, hl with | [_, _], _ => rfl
  have PR : Prog K mg C gInit gOrder pO gHas gLen gCall gExch gPut gDrop gPlace gdraw gstart gpick gmixed gsame gnames (PySem.W.fnOf "__init__" "Rival.__init__" (defArgs sInit) (defBody sInit) (defScope sInit) .none kVInit dcInit pmInit anInit cdInit ctInit) (PySem.W.fnOf "order" "Rival.order" (defArgs sOrder) (defBody sOrder) (defScope sOrder) .none kVOrder dcOrder pmOrder anOrder cdOrder ctOrder) (PySem.W.fnOf "__contains__" "Rival.__contains__" (defArgs sHas) (defBody sHas) (defScope sHas) .none kVHas dcHas pmHas anHas cdHas ctHas) (PySem.W.fnOf "__len__" "Rival.__len__" (defArgs sLen) (defBody sLen) (defScope sLen) .none kVLen dcLen pmLen anLen cdLen ctLen) (PySem.W.fnOf "call" "Rival.call" (defArgs sCall) (defBody sCall) (defScope sCall) (.ref TT) kVCall dcCall pmCall anCall cdCall ctCall) (PySem.W.fnOf "exchange" "Rival.exchange" (defArgs sExch) (defBody sExch) (defScope sExch) .none kVExch dcExch pmExch anExch cdExch ctExch) (PySem.W.fnOf "put" "Rival.put" (defArgs sPut) (defBody sPut) (defScope sPut) .none kVPut dcPut pmPut anPut cdPut ctPut) (PySem.W.fnOf "drop" "Rival.drop" (defArgs sDrop) (defBody sDrop) (defScope sDrop) .none kVDrop dcDrop pmDrop anDrop cdDrop ctDrop) (PySem.W.fnOf "_place" "Rival._place" (defArgs sPlace) (defBody sPlace) (defScope sPlace) .none kVPlace dcPlace pmPlace anPlace cdPlace ctPlace) (PySem.W.fnOf "_law_draw" "_law_draw" (defArgs sDraw) (defBody sDraw) (defScope sDraw) .none kVdraw dcdraw pmdraw andraw cddraw ctdraw) (PySem.W.fnOf "_law_start" "_law_start" (defArgs sStart) (defBody sStart) (defScope sStart) .none kVstart dcstart pmstart anstart cdstart ctstart) (PySem.W.fnOf "_law_pick" "_law_pick" (defArgs sPick) (defBody sPick) (defScope sPick) .none kVpick dcpick pmpick anpick cdpick ctpick) (PySem.W.fnOf "_law_mixed" "_law_mixed" (defArgs sMixed) (defBody sMixed) (defScope sMixed) .none kVmixed dcmixed pmmixed anmixed cdmixed ctmixed) (PySem.W.fnOf "_law_same" "_law_same" (defArgs sSame) (defBody sSame) (defScope sSame) .none kVsame dcsame pmsame ansame cdsame ctsame) (PySem.W.fnOf "_law_p_names" "_law_p_names" (defArgs sNames) (defBody sNames) (defScope sNames) .none kVnames dcnames pmnames annames cdnames ctnames) := ⟨⟨PySem.W.mg_none_of X_ G zisinstance, PySem.W.mg_none_of X_ G zint, PySem.W.mg_none_of X_ G zbool, PySem.W.mg_none_of X_ G zlist, PySem.W.mg_none_of X_ G ztuple, PySem.W.mg_none_of X_ G zlen, PySem.W.mg_none_of X_ G zall, PySem.W.mg_none_of X_ G zzip, PySem.W.mg_none_of X_ G zrange⟩, ⟨⟨pgC, hdC, poC, saC⟩, nCnames, nCcost⟩, PySem.W.mg_of X_ G aC, FInit, bInit, ⟨mkC, aInit, iInit, kcC⟩, FOrder, bOrder, ⟨ap, gp, tp, ⟨_, aOrder⟩⟩, FHas, bHas, ⟨aHas, iHas, kHas⟩, FLen, bLen, ⟨aLen, iLen, kLen⟩, FCall, bC2_of FCall, bC1_of FCall, ⟨aCall, iCall, kCall⟩, FExch, bExch, ⟨aExch, iExch, kExch⟩, FPut, bPut, ⟨aPut, iPut, kPut⟩, FDrop, bDrop, ⟨aDrop, iDrop, kDrop⟩, FPlace, bPlace, ⟨aPlace, iPlace, kPlace⟩, ⟨Fdraw, bdraw, PySem.W.mg_of X_ G adraw⟩, ⟨Fstart, bstart, PySem.W.mg_of X_ G astart⟩, ⟨Fpick, bpick, PySem.W.mg_of X_ G apick⟩, ⟨Fmixed, bmixed, PySem.W.mg_of X_ G amixed⟩, ⟨Fsame, bsame, PySem.W.mg_of X_ G asame⟩, ⟨Fnames, bnames, PySem.W.mg_of X_ G anames⟩⟩
  exact ⟨PySem.W.fnOf "law" "law" (defArgs sLaw) (defBody sLaw) (defScope sLaw) .none kVLaw dcLaw pmLaw anLaw cdLaw ctLaw, fun s v => .of_eq rfl, fun base _ _ => ok_law (fun_mk (st := sLaw) lLaw cLaw kLaw) PR⟩
theorem walk_ {l : PySem.W.OpenLaw} {q : Program} {loose : List Str} {XP : (Str → Option Value) → Heap → Prop} {YP : World → Heap → Prop} {d : DefRec} {K : Params → PySem.W.Frag} (hn : l.most = some 63) (hdf : d.params.defaults = [])
    (hY : ∀ (w : World) (h : Heap), YP w h → (K w.params).In h)
    (F : ∀ (w : World) (mg : Str → Option Value) (fa : Addr) (h : Heap), (K w.params).In h → h.Ns mainGlobals mg → mg d.name = some (.ref fa) →
      ∃ fd : FuncData, (∀ (s : Shared) (u : Value), BindsTo s fd ⟨[u], []⟩ [("_law_script", u)]) ∧ ∀ base : Heap, (K w.params).In base → base.Ns mainGlobals mg → FnOk l.prog w (K w.params) mg base CX0 5 fa fd ["_law_script"] (spLaw (K w.params))) :
    PySem.W.WalkO q loose XP YP l.row.toRowW d [] (fun f vs => PySem.call f vs) :=
  L2.walk_of (n := 63) (k := 5) (x := "_law_script") (CX := fun _ => CX0) (sp := fun w => spLaw (K w.params)) hn (by decide) hdf ⟨rfl, by decide, by decide⟩ hY F (fun _ _ a ns hl _ hS => ⟨a, ns, rfl, hS, hl, fun _ => rfl⟩) fun _ _ _ _ _ z => z
end PA

open PySem PySem.W PyProof.Rows
set_option maxRecDepth 100000 in
set_option maxHeartbeats 0 in
theorem PySem.Challenge.cw_pairahead_k52_rivals_lists_and_costs_holds : PySem.Challenge.rw_pairahead_k52_rivals_lists_and_costs.Holds := by
  w_on; o_law; k_head; (case hw => w_witness2)
  k_fill
  refine PA.walk_ (l := PySem.Challenge.rw_pairahead_k52_rivals_lists_and_costs) rfl rfl (fun w h Y => PySem.W.kIn_of Y) ?F
  case F =>
    intro w mg fa h KX G hmg
    refine' PA.all_mk KX G hmg ?aC ?pgC ?hdC ?poC ?saC ?kcC ?mkC ?nCnames ?nCcost ?zisinstance ?zint ?zbool ?zlist ?ztuple ?zlen ?zall ?zzip ?zrange ?aInit ?lInit ?cInit ?kInit ?iInit ?ap ?gp ?tp ?aOrder ?lOrder ?cOrder ?kOrder ?aHas ?lHas ?cHas ?kHas ?iHas ?aLen ?lLen ?cLen ?kLen ?iLen ?aCall ?lCall ?cCall ?kCall ?iCall ?lT ?aExch ?lExch ?cExch ?kExch ?iExch ?aPut ?lPut ?cPut ?kPut ?iPut ?aDrop ?lDrop ?cDrop ?kDrop ?iDrop ?aPlace ?lPlace ?cPlace ?kPlace ?iPlace ?adraw ?ldraw ?cdraw ?kdraw ?astart ?lstart ?cstart ?kstart ?apick ?lpick ?cpick ?kpick ?amixed ?lmixed ?cmixed ?kmixed ?asame ?lsame ?csame ?ksame ?anames ?lnames ?cnames ?knames ?aLaw ?lLaw ?cLaw ?kLaw
    (case aC => k_is)
    (case pgC => k_is)
    (case hdC => k_is)
    (case poC => k_is)
    (case saC => k_is)
    (case kcC => k_is)
    (case mkC => k_is)
    (case nCnames => k_is)
    (case nCcost => k_is)
    (case zisinstance => k_is)
    (case zint => k_is)
    (case zbool => k_is)
    (case zlist => k_is)
    (case ztuple => k_is)
    (case zlen => k_is)
    (case zall => k_is)
    (case zzip => k_is)
    (case zrange => k_is)
    (case aInit => k_is)
    (case lInit => k_is)
    (case cInit => k_is)
    (case kInit => k_is)
    (case iInit => k_is)
    (case ap => k_is)
    (case gp => k_is)
    (case tp => k_is)
    (case aOrder => k_is)
    (case lOrder => k_is)
    (case cOrder => k_is)
    (case kOrder => k_is)
    (case aHas => k_is)
    (case lHas => k_is)
    (case cHas => k_is)
    (case kHas => k_is)
    (case iHas => k_is)
    (case aLen => k_is)
    (case lLen => k_is)
    (case cLen => k_is)
    (case kLen => k_is)
    (case iLen => k_is)
    (case aCall => k_is)
    (case lCall => k_is)
    (case cCall => k_is)
    (case kCall => k_is)
    (case iCall => k_is)
    (case lT => k_is)
    (case aExch => k_is)
    (case lExch => k_is)
    (case cExch => k_is)
    (case kExch => k_is)
    (case iExch => k_is)
    (case aPut => k_is)
    (case lPut => k_is)
    (case cPut => k_is)
    (case kPut => k_is)
    (case iPut => k_is)
    (case aDrop => k_is)
    (case lDrop => k_is)
    (case cDrop => k_is)
    (case kDrop => k_is)
    (case iDrop => k_is)
    (case aPlace => k_is)
    (case lPlace => k_is)
    (case cPlace => k_is)
    (case kPlace => k_is)
    (case iPlace => k_is)
    (case adraw => k_is)
    (case ldraw => k_is)
    (case cdraw => k_is)
    (case kdraw => k_is)
    (case astart => k_is)
    (case lstart => k_is)
    (case cstart => k_is)
    (case kstart => k_is)
    (case apick => k_is)
    (case lpick => k_is)
    (case cpick => k_is)
    (case kpick => k_is)
    (case amixed => k_is)
    (case lmixed => k_is)
    (case cmixed => k_is)
    (case kmixed => k_is)
    (case asame => k_is)
    (case lsame => k_is)
    (case csame => k_is)
    (case ksame => k_is)
    (case anames => k_is)
    (case lnames => k_is)
    (case cnames => k_is)
    (case knames => k_is)
    (case aLaw => k_is)
    (case lLaw => k_is)
    (case cLaw => k_is)
    (case kLaw => k_is)
#print axioms PySem.Challenge.cw_pairahead_k52_rivals_lists_and_costs_holds
