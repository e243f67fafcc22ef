import PyProof.Rows.All
import Wide.All
import OpenK.AllK
import Wide.FinOn
import HandS.ForMost
import HandS.IsInst
import HandS.Zip
import HandS.Wide
import HandS.Codes
import HandS.Evl
import HandS.Conv
import HandS.Defaults
import HandS.MakeKw
import HandS.Walk
import HandS.TupAny
import HandS.Words
import HandS.WordsList
import PySem.Challenge.RW_pairahead_k54_whole_rival_by_pairs
import HandS.Property
import HandS.More
import HandS.Style
import HandS.TupLe
set_option Elab.async false
set_option linter.all false
set_option maxRecDepth 100000
set_option maxHeartbeats 2000000
/-! what serves every row -/
namespace L2
open PySem PySem.Spec PyProof.Rows
theorem PI.or {X : Cx} {tg l : Expr} {w1 w2 : TI} (h1 : PI X tg l w1) (h2 : PI X tg l w2) : PI X tg l (fun σ H R => w1 σ H R ∨ w2 σ H R) :=
  ⟨fun pins s σ H R I h => h.elim (h1.run pins s σ H R I) (h2.run pins s σ H R I)⟩
/-- a list or a tuple -/
def Sq (K : PySem.W.Frag) (H : Hp) (a : Addr) (xs : List V) : Prop := SqL K H a xs ∨ SqT K H a xs
theorem SqT.up {K : PySem.W.Frag} {H H' : Hp} {a : Addr} {xs : List V} (h : SqT K H a xs) (e : Same H H') : SqT K H' a xs :=
  h.elim (fun h => .inl (h.elim (fun h => .inl (e _ _ h)) fun ⟨o, h⟩ => .inr ⟨o, e _ _ h⟩)) fun h => .inr h
theorem SqL.up {K : PySem.W.Frag} {H H' : Hp} {a : Addr} {xs : List V} (h : SqL K H a xs) (e : Same H H') : SqL K H' a xs :=
  h.elim (fun h => .inl (h.elim (fun h => .inl (e _ _ h)) fun ⟨o, h⟩ => .inr ⟨o, e _ _ h⟩)) fun h => .inr h
theorem Sq.up {K : PySem.W.Frag} {H H' : Hp} {a : Addr} {xs : List V} (h : Sq K H a xs) (e : Same H H') : Sq K H' a xs := h.imp (fun h => SqL.up h e) fun h => SqT.up h e
theorem walk_l {K : PySem.W.Frag} {a : Addr} {xs : List V} : Walk (Itl K a) xs.length (fun H => SqL K H a xs) (YAt xs) :=
  ⟨fun i H hi q => ⟨xs, xs[i], q, by simp [hi]⟩, fun H q => ⟨xs, q, Nat.le_refl _⟩, fun i H x H' hi q y => ⟨y.1, y.2 xs q⟩⟩
theorem walk_t {K : PySem.W.Frag} {a : Addr} {xs : List V} : Walk (Itt K a) xs.length (fun H => SqT K H a xs) (YAt xs) :=
  ⟨fun i H hi q => ⟨xs, xs[i], q, by simp [hi]⟩, fun H q => ⟨xs, q, Nat.le_refl _⟩, fun i H x H' hi q y => ⟨y.1, y.2 xs q⟩⟩
/-- how a value that is a list or a tuple of xs stands, as one of the two -/
inductive Kind where
  | l | t
def Sk (K : PySem.W.Frag) (k : Kind) (H : Hp) (a : Addr) (xs : List V) : Prop := match k with
  | .l => SqL K H a xs
  | .t => SqT K H a xs
theorem Sk.sq {K : PySem.W.Frag} {k : Kind} {H : Hp} {a : Addr} {xs : List V} (h : Sk K k H a xs) : Sq K H a xs := by
  cases k
  · exact .inl h
  · exact .inr h
theorem Sk.up {K : PySem.W.Frag} {k : Kind} {H H' : Hp} {a : Addr} {xs : List V} (h : Sk K k H a xs) (e : Same H H') : Sk K k H' a xs := by
  cases k
  · exact SqL.up h e
  · exact SqT.up h e
theorem Sq.kind {K : PySem.W.Frag} {H : Hp} {a : Addr} {xs : List V} (h : Sq K H a xs) : ∃ k, Sk K k H a xs := h.elim (fun h => ⟨.l, h⟩) fun h => ⟨.t, h⟩
def ItSq (K : PySem.W.Frag) (k : Kind) (a : Addr) : It := match k with
  | .l => Itl K a
  | .t => Itt K a
theorem walk_k {K : PySem.W.Frag} {k : Kind} {a : Addr} {xs : List V} : Walk (ItSq K k a) xs.length (fun H => Sk K k H a xs) (YAt xs) := by
  cases k
  · exact walk_l
  · exact walk_t
/-- a walk over a list or a tuple -/
def iSq (K : PySem.W.Frag) (tl : TE) : TI := fun σ H R => ∃ k : Kind, tl σ H fun x H1 => ∃ a, x = .ref a ∧ (∃ xs, Sk K k H1 a xs) ∧ R (ItSq K k a) H1
theorem pi_sq {X : Cx} {tg l : Expr} {tl : TE} (hl : PE X l tl) : PI X tg l (iSq X.K tl) := by
  refine ⟨fun pins s σ H R I ⟨k, h⟩ => ?_⟩
  cases k
  · exact (pi_list hl).run pins s σ H R I h
  · exact (pi_tup hl).run pins s σ H R I h
/-! ### comprehensions -/
section
variable {J : It} {n : Nat} {G : Hp → Prop} {xs : List V} {g : TG} {tt : TT} {te : TE} {vs : List Nat} {σ : L2.St} {H1 : Hp} {D : Addr} {Qd : Hp → Prop}
theorem new_ {H : Hp} {p : Addr} {o : HO} (hp : H p = none) : Same H (upd H p o) := fun b u e => by
  rw [upd_ne (ne_of_none e hp)]
  exact e
/-- all but D is as it was -/
def But (D : Addr) (H H' : Hp) : Prop := ∀ c o, c ≠ D → H c = some o → H' c = some o
/-- the values are made one after another, the heap of before stays -/
theorem lc_acc (w : Walk J n G (YAt xs)) (hn : n ≤ sizeLine) (hD : H1 D = none) (hG : ∀ H, Same H1 H → G H) (A : Nat → List V → Hp → Prop) (hl : ∀ i acc H, A i acc H → acc.length ≤ i) (A0 : A 0 [] (upd H1 D (.lst [])))
    (hs : ∀ (i : Nat) (x : V) (H : Hp) (acc : List V) (Φ : V → Hp → Prop) (Ψ : Hp → Prop), i < n → xs[i]? = some x → Same H1 H → H D = some (.lst acc) → A i acc H →
      (∀ y H4, Same H H4 → H4 D = some (.lst acc) → (∀ H5, H5 D = some (.lst (acc ++ [y])) → But D H4 H5 → But D H5 H4 → A (i + 1) (acc ++ [y]) H5) → Φ y H4) →
      g x (wipe σ vs) H fun σ2 H2 => wipe σ2 vs = wipe σ vs ∧ tt σ2 H2 fun b H3 => if b = true then te σ2 H3 Φ else Ψ H3)
    (hd : ∀ H acc, Same H1 H → H D = some (.lst acc) → A n acc H → Qd H) :
    ∃ W : Nat → Nat → Hp → Prop, (∃ m, W 0 m (upd H1 D (.lst []))) ∧ ∀ i m H, W i m H →
      (J.stop i H ∧ Qd H) ∨ (J.go i H ∧ ∃ Nx : Hp → Prop, (∀ H', Nx H' → ∃ m', m' < m ∧ W (i + 1) m' H') ∧ ∀ x H', J.yld i H x H' → g x (wipe σ vs) H' fun σ2 H2 => wipe σ2 vs = wipe σ vs ∧ tt σ2 H2 fun b H3 =>
        if b = true then te σ2 H3 fun y H4 => ∃ acc, H4 D = some (.lst acc) ∧ acc.length < sizeLine ∧ Nx (upd H4 D (.lst (acc ++ [y]))) else Nx H3) := by
  refine lc_it w (fun i H => Same H1 H ∧ ∃ acc, H D = some (.lst acc) ∧ A i acc H) ⟨new_ hD, [], upd_same, A0⟩ (fun i H _ p => hG H p.1) (fun i x H H' hi p y => ?_) fun H p => ?_
  · obtain ⟨rfl, hx⟩ := y
    obtain ⟨sm, acc, hd', ha⟩ := p
    refine hs i x _ acc _ _ hi hx sm hd' ha fun y H4 s4 d4 k => ⟨acc, d4, Nat.lt_of_lt_of_le (Nat.lt_of_le_of_lt (hl _ _ _ ha) hi) hn, fun c o e => ?_, acc ++ [y], upd_same, k _ upd_same (fun c o cd e => ?_) fun c o cd e => ?_⟩
    · rw [upd_ne (ne_of_none e hD)]
      exact s4 _ _ (sm _ _ e)
    · rw [upd_ne cd]
      exact e
    · rw [upd_ne cd] at e
      exact e
  · obtain ⟨sm, acc, hd', ha⟩ := p
    exact hd H acc sm hd' ha
/-- values that do not hang on the heap -/
theorem lc_same (w : Walk J n G (YAt xs)) (hn : n ≤ sizeLine) (hD : H1 D = none) (hG : ∀ H, Same H1 H → G H) (ys : List V) (hy : ys.length = n)
    (hs : ∀ (i : Nat) (x y : V) (H : Hp) (Φ : V → Hp → Prop) (Ψ : Hp → Prop), xs[i]? = some x → ys[i]? = some y → Same H1 H → (∀ H4, Same H H4 → Φ y H4) →
      g x (wipe σ vs) H fun σ2 H2 => wipe σ2 vs = wipe σ vs ∧ tt σ2 H2 fun b H3 => if b = true then te σ2 H3 Φ else Ψ H3)
    (hd : ∀ H, Same H1 H → H D = some (.lst ys) → Qd H) :
    ∃ W : Nat → Nat → Hp → Prop, (∃ m, W 0 m (upd H1 D (.lst []))) ∧ ∀ i m H, W i m H →
      (J.stop i H ∧ Qd H) ∨ (J.go i H ∧ ∃ Nx : Hp → Prop, (∀ H', Nx H' → ∃ m', m' < m ∧ W (i + 1) m' H') ∧ ∀ x H', J.yld i H x H' → g x (wipe σ vs) H' fun σ2 H2 => wipe σ2 vs = wipe σ vs ∧ tt σ2 H2 fun b H3 =>
        if b = true then te σ2 H3 fun y H4 => ∃ acc, H4 D = some (.lst acc) ∧ acc.length < sizeLine ∧ Nx (upd H4 D (.lst (acc ++ [y]))) else Nx H3) := by
  refine lc_acc w hn hD hG (fun i acc _ => acc = ys.take i) (fun i acc H e => by rw [e, List.length_take]; omega) (by rw [List.take_zero]) (fun i x H acc Φ Ψ hi hx sm hd' ha k => ?_) fun H acc sm hd' ha => hd H sm ?_
  · have hi' : i < ys.length := by omega
    have ey : ys[i]? = some ys[i] := List.getElem?_eq_getElem hi'
    refine hs i x ys[i] H Φ Ψ hx ey sm fun H4 s4 => k _ H4 s4 (s4 _ _ hd') fun H5 _ _ _ => ?_
    rw [ha, List.take_add_one, ey]
    rfl
  · rw [hd', ha, ← hy, List.take_length]
end
/-! ### x in an instance with the own method -/
section
variable {X : Cx} {CX : CXT} {k : Nat} {C f : Addr} {fd : FuncData} {ps : List Str} {sp : Sp} {E : XK}
theorem op_inOwn (hs : PySem.W.findIn X.K (.ref C) "__contains__" = some (some (.ref f))) (hf : PySem.W.isFn X.K (.ref f) = true) (F : FnOk X.prog X.w X.K X.mg X.base CX k f fd ps sp) (hr : Room k X.A) (hb : Binds X.K fd ps []) (hx : Passes CX X E) :
    OpR X (compareOp .In) (fun x y H Q => ∃ a dx fs, y = .ref a ∧ H a = some (.ins C dx fs) ∧ sp [.ref a, x] H (fun v H' => ∃ b, v = .bl b ∧ Q (.bl b) H') E) := by
  intro pins s σ H x y v u Q I rx ry h
  obtain ⟨a, dx, fs, rfl, ha, q⟩ := h
  cases ry
  obtain ⟨mA, J, _⟩ := ins_get I.hok ha
  obtain ⟨od, J, _⟩ := J.look
  obtain ⟨m, hF⟩ := I.fr
  refine PySem.W.in_K hF I.ok.mod.kin J hs hf ?_
  refine wpAny_mono (run_fn (us := [.ref a, v]) (vs := [.ref a, x]) F hr hb .nil hx I (.cons rfl (.cons rx .nil)) q) (fun w s' z => ?_) fun _ _ z => z
  obtain ⟨v', H', I', rv, b, rfl, q'⟩ := z
  cases rv
  exact wpAny_truthy_bool ⟨.bl b, H', I', rfl, q'⟩
theorem op_notInOwn (hs : PySem.W.findIn X.K (.ref C) "__contains__" = some (some (.ref f))) (hf : PySem.W.isFn X.K (.ref f) = true) (F : FnOk X.prog X.w X.K X.mg X.base CX k f fd ps sp) (hr : Room k X.A) (hb : Binds X.K fd ps []) (hx : Passes CX X E) :
    OpR X (compareOp .NotIn) (fun x y H Q => ∃ a dx fs, y = .ref a ∧ H a = some (.ins C dx fs) ∧ sp [.ref a, x] H (fun v H' => ∃ b, v = .bl b ∧ Q (.bl (!b)) H') E) := by
  intro pins s σ H x y v u Q I rx ry h
  obtain ⟨a, dx, fs, rfl, ha, q⟩ := h
  cases ry
  obtain ⟨mA, J, _⟩ := ins_get I.hok ha
  obtain ⟨od, J, _⟩ := J.look
  obtain ⟨m, hF⟩ := I.fr
  refine PySem.W.notIn_K hF I.ok.mod.kin J hs hf ?_
  refine wpAny_mono (run_fn (us := [.ref a, v]) (vs := [.ref a, x]) F hr hb .nil hx I (.cons rfl (.cons rx .nil)) q) (fun w s' z => ?_) fun _ _ z => z
  obtain ⟨v', H', I', rv, b, rfl, q'⟩ := z
  cases rv
  exact wpAny_truthy_bool ⟨.bl (!b), H', I', rfl, q'⟩
end
end L2

set_option maxHeartbeats 2000000
namespace L2
open PySem PySem.Spec PyProof.Rows RZ
/-! ### zip, slices of lists and tuples -/
theorem walk_zipT {K : PySem.W.Frag} {a b : Addr} {xs ys : List V} {n : Nat} (hn : n = min xs.length ys.length) : Walk (ItzT K a b) n (fun H => SqT K H a xs ∧ SqT K H b ys) (YPair (fun i => xs[i]?) (fun i => ys[i]?)) :=
  ⟨fun i H hi q => ⟨xs, ys, xs[i]'(by omega), ys[i]'(by omega), q.1, q.2, List.getElem?_eq_getElem _, List.getElem?_eq_getElem _⟩,
    fun H q => ⟨xs, ys, q.1, q.2, by omega⟩, fun i H v H' hi q y => by
      obtain ⟨T, x, y', rfl, hT, rfl, f1, f2⟩ := y
      exact ⟨T, x, y', rfl, hT, rfl, f1 xs q.1, f2 ys q.2⟩⟩
def ItZk (K : PySem.W.Frag) (k : Kind) (a b : Addr) : It := match k with
  | .l => Itz K a b
  | .t => ItzT K a b
theorem walk_zk {K : PySem.W.Frag} {k : Kind} {a b : Addr} {xs ys : List V} {n : Nat} (hn : n = min xs.length ys.length) : Walk (ItZk K k a b) n (fun H => Sk K k H a xs ∧ Sk K k H b ys) (YPair (fun i => xs[i]?) (fun i => ys[i]?)) := by
  cases k
  · exact walk_zip hn
  · exact walk_zipT hn
theorem zip_k {K : PySem.W.Frag} {k : Kind} {H : Hp} {a b : Addr} {xs ys : List V} {R : It → Hp → Prop} (ha : Sk K k H a xs) (hb : Sk K k H b ys) (h : R (ItZk K k a b) H) :
    (SqL K H a xs ∧ SqL K H b ys ∧ R (Itz K a b) H) ∨ (SqT K H a xs ∧ SqT K H b ys ∧ R (ItzT K a b) H) := by
  cases k
  · exact .inl ⟨ha, hb, h⟩
  · exact .inr ⟨ha, hb, h⟩
theorem cut_all {xs : List V} {lo hi : Option Int} (h : HT.sIx xs.length 0 lo = 0 ∧ HT.sIx xs.length xs.length hi = xs.length) : cutV xs lo hi = xs := by
  unfold cutV
  rw [h.1, h.2, List.drop_zero, Nat.sub_zero, List.take_length]
theorem sl_k {K : PySem.W.Frag} {k : Kind} {H : Hp} {a : Addr} {xs : List V} {lo hi : Option Int} {Q : V → Hp → Prop} (ha : Sk K k H a xs) (h : ∀ p H', Same H H' → Sk K k H' p (cutV xs lo hi) → Q (.ref p) H') :
    rSlL K (.ref a) lo hi H Q ∨ rSlA K (.ref a) lo hi H Q := by
  cases k
  · exact .inl ⟨a, xs, rfl, ha, fun p hp => h p _ (new_ hp) (SqL.of upd_same)⟩
  · exact .inr ⟨a, xs, rfl, ha, fun w => h a H (fun _ _ e => e) (by rw [cut_all w]; exact ha), fun _ p hp => h p _ (new_ hp) (SqT.of upd_same)⟩
theorem cut_1 (xs : List V) : cutV xs (some (1 : Int)) none = xs.drop 1 := by
  unfold cutV
  rw [show (1 : Int) = ((1 : Nat) : Int) from rfl, HT.sIx_nat, HT.sIx_none]
  rcases Nat.eq_zero_or_pos xs.length with h | h
  · have : xs = [] := List.length_eq_zero_iff.mp h
    subst this
    rfl
  · rw [Nat.min_eq_left h, List.take_of_length_le (by rw [List.length_drop]; exact Nat.le_refl _)]
theorem cut_to (xs : List V) (n : Nat) : cutV xs none (some (n : Int)) = xs.take n := by
  unfold cutV
  rw [HT.sIx_nat, HT.sIx_none, List.drop_zero, Nat.sub_zero]
  rcases Nat.le_total n xs.length with h | h
  · rw [Nat.min_eq_left h]
  · rw [Nat.min_eq_right h, List.take_length, List.take_of_length_le h]
/-! ### small words -/
theorem take_succ' {α : Type} {l : List α} {i : Nat} {x : α} (h : l[i]? = some x) : l.take (i + 1) = l.take i ++ [x] := by
  rw [List.take_add_one, h]
  rfl
theorem ifD_no {p A B : Prop} [Decidable p] (h : ¬ p) (q : B) : if decide p = true then A else B := by
  rw [decide_eq_false h]
  exact iteF q
theorem ifD_yes {p A B : Prop} [Decidable p] (h : p) (q : A) : if decide p = true then A else B := by
  rw [decide_eq_true h]
  exact iteT q
theorem ifD_2 {p A B : Prop} [Decidable p] (h1 : p → A) (h2 : ¬ p → B) : if decide p = true then A else B := by
  by_cases h : p
  · exact ifD_yes h (h1 h)
  · exact ifD_no h (h2 h)
theorem ifB_2 {b : Bool} {A B : Prop} (h1 : b = true → A) (h2 : b = false → B) : if b = true then A else B := by
  cases b
  · exact iteF (h2 rfl)
  · exact iteT (h1 rfl)
theorem Same.none {H H' : Hp} {x : Addr} (s : Same H H') (h : H' x = Option.none) : H x = Option.none := by
  cases e : H x with
  | none => rfl
  | some o => rw [s _ _ e] at h; cases h
theorem all_true (n : Nat) : (List.replicate n true).all id = true := by
  rw [List.all_eq_true]
  intro x hx
  rw [(List.mem_replicate.mp hx).2]
  rfl
theorem boot_isi : bootBuiltins "isinstance" = some (.builtin "isinstance") := by decide +kernel
theorem boot_int' : bootBuiltins "int" = some (.type "int") := by decide +kernel
theorem boot_bool' : bootBuiltins "bool" = some (.type "bool") := by decide +kernel
theorem boot_tuple' : bootBuiltins "tuple" = some (.type "tuple") := by decide +kernel
theorem boot_list' : bootBuiltins "list" = some (.type "list") := by decide +kernel
theorem boot_all' : bootBuiltins "all" = some (.builtin "all") := by decide +kernel
structure Df (K : PySem.W.Frag) (mg : Str → Option Value) (x : Str) (st : Stmt) (f : Addr) (fd : FuncData) (ps : List Str) : Prop where
  F : Fun K x x st f fd
  B : Binds K fd ps []
  M : mg x = some (.ref f)
def rTupK (K : PySem.W.Frag) : List V → Hp → (V → Hp → Prop) → Prop := fun xs H Q => ∃ p ys, xs = [.ref p] ∧ ((SqL K H p ys ∧ ∀ l, H l = none → Q (.ref l) (upd H l (.tup ys))) ∨ (SqT K H p ys ∧ Q (.ref p) H))
theorem call_tupleK {X : Cx} {K : PySem.W.Frag} (h : X.K = K) : CallR X (.type "tuple") (rTupK K) := h ▸ call_tuple_of
def rLstK (K : PySem.W.Frag) : List V → Hp → (V → Hp → Prop) → Prop := fun xs H Q => ∃ p ys, xs = [.ref p] ∧ (SqL K H p ys ∨ SqT K H p ys) ∧ ∀ l, H l = none → Q (.ref l) (upd H l (.lst ys))
theorem call_listK {X : Cx} {K : PySem.W.Frag} (h : X.K = K) : CallR X (.type "list") (rLstK K) := h ▸ call_list_of
def rLenK (K : PySem.W.Frag) : List V → Hp → (V → Hp → Prop) → Prop := fun xs H Q => ∃ p ys, xs = [.ref p] ∧ (SqL K H p ys ∨ SqT K H p ys) ∧ Q (.int ys.length) H
theorem call_lenK {X : Cx} {K : PySem.W.Frag} (h : X.K = K) : CallR X (.builtin "len") (rLenK K) := h ▸ call_len_seq
def rIxTK (K : PySem.W.Frag) : R2 := fun x y H Q => ∃ p xs i v, x = .ref p ∧ y = .int i ∧ SqT K H p xs ∧ atI xs i = some v ∧ Q v H
theorem ix_tupK {X : Cx} {K : PySem.W.Frag} (h : X.K = K) : IxR X (rIxTK K) := h ▸ ix_tup
/-! ### what stands at each place of a list of references -/
def Ea {α : Type} (H : Hp) (P : Hp → Addr → α → Prop) (xs : List V) (ds : List α) : Prop := xs.length = ds.length ∧ ∀ (i : Nat) (x : V) (r : α), xs[i]? = some x → ds[i]? = some r → ∃ c, x = .ref c ∧ P H c r
section
variable {α : Type} {H H' : Hp} {P P' : Hp → Addr → α → Prop} {xs ys : List V} {ds es : List α} {c : Addr} {r : α}
theorem Ea.imp (e : Ea H P xs ds) (f : ∀ c r, P H c r → P' H' c r) : Ea H' P' xs ds := ⟨e.1, fun i x r h1 h2 => let ⟨c, hx, q⟩ := e.2 i x r h1 h2; ⟨c, hx, f c r q⟩⟩
theorem Ea.nil : Ea H P [] [] := ⟨rfl, fun i x r h _ => by simp at h⟩
theorem Ea.append (e : Ea H P xs ds) (e' : Ea H P ys es) : Ea H P (xs ++ ys) (ds ++ es) := by
  refine ⟨by rw [List.length_append, List.length_append, e.1, e'.1], fun i x r h1 h2 => ?_⟩
  rcases Nat.lt_or_ge i xs.length with hi | hi
  · rw [List.getElem?_append_left hi] at h1
    rw [List.getElem?_append_left (by rw [← e.1]; exact hi)] at h2
    exact e.2 i x r h1 h2
  · rw [List.getElem?_append_right hi] at h1
    rw [List.getElem?_append_right (by rw [← e.1]; exact hi), ← e.1] at h2
    exact e'.2 _ x r h1 h2
theorem Ea.one (q : P H c r) : Ea H P [.ref c] [r] := by
  refine ⟨rfl, fun i x r' h1 h2 => ?_⟩
  match i, h1, h2 with
  | 0, h1, h2 =>
    cases h1
    cases h2
    exact ⟨c, rfl, q⟩
  | (j + 1), h1, _ => simp at h1
theorem Ea.push (e : Ea H P xs ds) (q : P H c r) : Ea H P (xs ++ [.ref c]) (ds ++ [r]) := e.append (.one q)
theorem Ea.get (e : Ea H P xs ds) {i : Nat} {r : α} (h : ds[i]? = some r) : ∃ c, xs[i]? = some (.ref c) ∧ P H c r := by
  have hi : i < xs.length := by rw [e.1]; exact (List.getElem?_eq_some_iff.mp h).1
  obtain ⟨c, hc, q⟩ := e.2 i _ r (List.getElem?_eq_getElem hi) h
  exact ⟨c, by rw [List.getElem?_eq_getElem hi, hc], q⟩
theorem Ea.at_ (e : Ea H P xs ds) {i : Nat} {x : V} (h : xs[i]? = some x) : ∃ c r, x = .ref c ∧ ds[i]? = some r ∧ P H c r := by
  have hi : i < ds.length := by rw [← e.1]; exact (List.getElem?_eq_some_iff.mp h).1
  obtain ⟨c, hc, q⟩ := e.2 i _ _ h (List.getElem?_eq_getElem hi)
  exact ⟨c, _, hc, List.getElem?_eq_getElem hi, q⟩
end
/-- a tuple at c of what r is written as -/
def TupOf {α : Type} (f : α → List V) (H : Hp) (c : Addr) (r : α) : Prop := H c = some (.tup (f r))
section
variable {α : Type} {f : α → List V} {H H' : Hp} {xs : List V} {ds : List α} {c p C dx : Addr} {r : α}
theorem TupOf.lst {ys zs : List V} (q : TupOf f H c r) (hD : H p = some (.lst ys)) : TupOf f (upd H p (.lst zs)) c r := by
  unfold TupOf
  rw [upd_ne (ne_of (H := H) q hD (by intro z; cases z))]
  exact q
theorem TupOf.ins {fs : List (Str × V)} {o : HO} (q : TupOf f H c r) (hp : H p = some (.ins C dx fs)) : TupOf f (upd H p o) c r := by
  unfold TupOf
  rw [upd_ne (ne_of (H := H) q hp (by intro z; cases z))]
  exact q
theorem TupOf.but {ys : List V} (q : TupOf f H c r) (hD : H p = some (.lst ys)) (b : But p H H') : TupOf f H' c r := b _ _ (ne_of (H := H) q hD (by intro z; cases z)) q
theorem Ea.same (e : Ea H (TupOf f) xs ds) (s : Same H H') : Ea H' (TupOf f) xs ds := e.imp fun c r q => s _ _ q
end
end L2

set_option maxHeartbeats 2000000
namespace PA
/-- below 2 ^ n in size -/
abbrev Sm (n : Nat) (x : Int) : Prop := x.natAbs < 2 ^ n
theorem Sm.mono {n m : Nat} {x : Int} (h : Sm n x) (hn : n ≤ m) : Sm m x := Nat.lt_of_lt_of_le h (Nat.pow_le_pow_right (by decide) hn)
theorem Sm.mul {n m k : Nat} {x y : Int} (hx : Sm n x) (hy : Sm m y) (h : n + m ≤ k) : Sm k (x * y) := by
  refine Sm.mono (n := n + m) ?_ h
  unfold Sm
  rw [Int.natAbs_mul, Nat.pow_add]
  exact Nat.mul_lt_mul'' hx hy
theorem Sm.add {n k : Nat} {x y : Int} (hx : Sm n x) (hy : Sm n y) (h : n + 1 ≤ k) : Sm k (x + y) := by
  refine Sm.mono (n := n + 1) ?_ h
  unfold Sm at *
  rw [Nat.pow_succ]
  omega
theorem Sm.sub {n k : Nat} {x y : Int} (hx : Sm n x) (hy : Sm n y) (h : n + 1 ≤ k) : Sm k (x - y) := by
  refine Sm.mono (n := n + 1) ?_ h
  unfold Sm at *
  rw [Nat.pow_succ]
  omega
theorem Sm.neg {n : Nat} {x : Int} (hx : Sm n x) : Sm n (-x) := by
  unfold Sm at *
  rw [Int.natAbs_neg]
  exact hx
theorem Sm.le {n : Nat} {x y : Int} (hx : Sm n x) (h : y.natAbs ≤ x.natAbs) : Sm n y := Nat.lt_of_le_of_lt h hx
theorem Sm.one {n : Nat} (h : 0 < n) : Sm n 1 := by
  show (1 : Int).natAbs < 2 ^ n
  exact Nat.one_lt_two_pow (by omega)

/-- the divisor that a Ratio shortens by -/
def shr (t b : Int) : Int := if b < 0 then -((Nat.gcd t.natAbs b.natAbs : Nat) : Int) else ((Nat.gcd t.natAbs b.natAbs : Nat) : Int)
/-- lowest terms -/
structure Low (T B : Int) : Prop where
  pos : 0 < B
  cop : Nat.gcd T.natAbs B.natAbs = 1
theorem low_one (i : Int) : Low i 1 := ⟨by decide, Nat.gcd_one_right _⟩
theorem gcd_key {a b c d g : Nat} (h1 : a = c * g) (h2 : b = d * g) : Nat.gcd a b = Nat.gcd c d * g := by
  rw [h1, h2]
  exact Nat.gcd_mul_right _ _ _
theorem rat_mk {t b : Int} (hb : b ≠ 0) : shr t b ≠ 0 ∧ (shr t b).natAbs ≤ b.natAbs ∧ Low (t.fdiv (shr t b)) (b.fdiv (shr t b)) ∧ (t.fdiv (shr t b)) * b = t * (b.fdiv (shr t b)) ∧
    (t.fdiv (shr t b)).natAbs ≤ t.natAbs ∧ (b.fdiv (shr t b)).natAbs ≤ b.natAbs := by
  have hg : 0 < Nat.gcd t.natAbs b.natAbs := Nat.gcd_pos_of_pos_right _ (Int.natAbs_pos.mpr hb)
  have hgb : Nat.gcd t.natAbs b.natAbs ≤ b.natAbs := Nat.gcd_le_right _ (Int.natAbs_pos.mpr hb)
  have hsn : (shr t b).natAbs = Nat.gcd t.natAbs b.natAbs := by
    unfold shr
    split
    · rw [Int.natAbs_neg, Int.natAbs_natCast]
    · rw [Int.natAbs_natCast]
  have hs0 : shr t b ≠ 0 := by
    intro z
    rw [z] at hsn
    simp at hsn
    omega
  have dv : ∀ y : Int, (Nat.gcd t.natAbs b.natAbs) ∣ y.natAbs → ∃ q : Int, y = q * shr t b := by
    intro y hy
    have h1 : ((Nat.gcd t.natAbs b.natAbs : Nat) : Int) ∣ y := Int.ofNat_dvd_left.mpr hy
    obtain ⟨q, hq⟩ := h1
    unfold shr
    split
    · exact ⟨-q, by rw [Int.neg_mul_neg, Int.mul_comm]; exact hq⟩
    · exact ⟨q, by rw [Int.mul_comm]; exact hq⟩
  obtain ⟨T, hT⟩ := dv t (Nat.gcd_dvd_left _ _)
  obtain ⟨B, hB⟩ := dv b (Nat.gcd_dvd_right _ _)
  have eT : t.fdiv (shr t b) = T := by
    conv => lhs; lhs; rw [hT]
    exact Int.mul_fdiv_cancel _ hs0
  have eB : b.fdiv (shr t b) = B := by
    conv => lhs; lhs; rw [hB]
    exact Int.mul_fdiv_cancel _ hs0
  rw [eT, eB]
  have nT : t.natAbs = T.natAbs * Nat.gcd t.natAbs b.natAbs := by
    conv => lhs; rw [hT, Int.natAbs_mul, hsn]
  have nB : b.natAbs = B.natAbs * Nat.gcd t.natAbs b.natAbs := by
    conv => lhs; rw [hB, Int.natAbs_mul, hsn]
  refine ⟨hs0, by rw [hsn]; exact hgb, ⟨?_, ?_⟩, ?_, ?_, ?_⟩
  · have hB0 : B ≠ 0 := by
      intro z
      rw [z, Int.zero_mul] at hB
      exact hb hB
    rcases Int.lt_or_gt_of_ne hB0 with h | h
    · exfalso
      unfold shr at hB
      split at hB
      · rename_i hneg
        have : 0 < B * -((Nat.gcd t.natAbs b.natAbs : Nat) : Int) := Int.mul_pos_of_neg_of_neg h (by omega)
        omega
      · rename_i hneg
        have : B * ((Nat.gcd t.natAbs b.natAbs : Nat) : Int) < 0 := Int.mul_neg_of_neg_of_pos h (by omega)
        omega
    · exact h
  · have e : Nat.gcd t.natAbs b.natAbs = Nat.gcd T.natAbs B.natAbs * Nat.gcd t.natAbs b.natAbs := by
      exact gcd_key nT nB
    have e2 : 1 * Nat.gcd t.natAbs b.natAbs = Nat.gcd T.natAbs B.natAbs * Nat.gcd t.natAbs b.natAbs := by rw [Nat.one_mul]; exact e
    exact (Nat.eq_of_mul_eq_mul_right hg e2).symm
  · calc T * b = T * (B * shr t b) := by rw [← hB]
      _ = (T * shr t b) * B := by rw [Int.mul_comm B, ← Int.mul_assoc]
      _ = t * B := by rw [← hT]
  · rw [nT]; exact Nat.le_mul_of_pos_right _ hg
  · rw [nB]; exact Nat.le_mul_of_pos_right _ hg
/-- a fraction has one lowest form -/
theorem Low.uniq {T B T' B' : Int} (h : Low T B) (h' : Low T' B') (e : T * B' = T' * B) : T = T' ∧ B = B' := by
  have n : T.natAbs * B'.natAbs = T'.natAbs * B.natAbs := by rw [← Int.natAbs_mul, ← Int.natAbs_mul, e]
  have d1 : B.natAbs ∣ B'.natAbs := by
    have : B.natAbs ∣ T.natAbs * B'.natAbs := ⟨T'.natAbs, by rw [n, Nat.mul_comm]⟩
    exact (Nat.Coprime.symm h.cop).dvd_of_dvd_mul_left this
  have d2 : B'.natAbs ∣ B.natAbs := by
    have : B'.natAbs ∣ T'.natAbs * B.natAbs := ⟨T.natAbs, by rw [← n, Nat.mul_comm]⟩
    exact (Nat.Coprime.symm h'.cop).dvd_of_dvd_mul_left this
  have eB : B = B' := by
    have := Nat.dvd_antisymm d1 d2
    have p1 := h.pos
    have p2 := h'.pos
    omega
  subst eB
  have hB : B ≠ 0 := by have := h.pos; omega
  exact ⟨Int.eq_of_mul_eq_mul_right hB e, rfl⟩
theorem Low.neg {T B : Int} (h : Low T B) : Low (-T) B := ⟨h.pos, by rw [Int.natAbs_neg]; exact h.cop⟩
/-- a = n / d and b = n / d -/
theorem cross {a b n d x y : Int} (hb : b ≠ 0) (h1 : a * d = n * b) (h2 : n * y = x * d) (hd : d ≠ 0) : a * y = x * b := by
  have : (a * y) * d = (x * b) * d := by
    calc (a * y) * d = (a * d) * y := by rw [Int.mul_assoc, Int.mul_comm y, ← Int.mul_assoc]
      _ = (n * b) * y := by rw [h1]
      _ = (n * y) * b := by rw [Int.mul_assoc, Int.mul_comm b, ← Int.mul_assoc]
      _ = (x * d) * b := by rw [h2]
      _ = (x * b) * d := by rw [Int.mul_assoc, Int.mul_comm d, ← Int.mul_assoc]
  exact Int.eq_of_mul_eq_mul_right hd this
end PA

set_option maxHeartbeats 4000000
namespace PA
open PySem L2 RZ
open C8 (pss_cut tCut)
def top (i : Nat) : Stmt := PySem.Challenge.pw_pairahead_k54_whole_rival_by_pairs.main.body.getD i (.Pass ⟨0, 0, 0, 0⟩)
abbrev sInit : Stmt := inClass (top 6) 0
abbrev sOrder : Stmt := inClass (top 6) 1
abbrev sHas : Stmt := inClass (top 6) 2
abbrev sLen : Stmt := inClass (top 6) 3
abbrev sCall : Stmt := inClass (top 6) 4
abbrev sExch : Stmt := inClass (top 6) 5
abbrev sPut : Stmt := inClass (top 6) 6
abbrev sDrop : Stmt := inClass (top 6) 7
abbrev sPlace : Stmt := inClass (top 6) 8
abbrev sDraw : Stmt := top 8
abbrev sStart : Stmt := top 9
abbrev sPick : Stmt := top 10
abbrev sMixed : Stmt := top 11
abbrev sSame : Stmt := top 12
abbrev sNames : Stmt := top 13
abbrev sMoved : Stmt := top 14
abbrev sLaw : Stmt := top 15
structure Txt (K : PySem.W.Frag) (mg : Str → Option Value) : Prop where
  isi : mg "isinstance" = none
  int_ : mg "int" = none
  bool_ : mg "bool" = none
  list_ : mg "list" = none
  tup_ : mg "tuple" = none
  len_ : mg "len" = none
  all_ : mg "all" = none
  zip_ : mg "zip" = none
  range_ : mg "range" = none
end PA

set_option maxHeartbeats 4000000
namespace PA
open PySem L2 RZ
open C8 (pss_cut tCut)
theorem atI_nat {α : Type} {xs : List α} {i : Nat} {x : α} (h : xs[i]? = some x) : atI xs (i : Int) = some x := by
  unfold atI
  rw [Evl.ixN_nat (List.getElem?_eq_some_iff.mp h).1]
  exact h
/-! ### data of ints -/
theorem ints_lay : ∀ ns : List Int, PyData.canLayAll0 (ns.map PyData.int) = true
  | [] => by simp [PyData.canLayAll0]
  | z :: zs => by simp [PyData.canLayAll0, PyData.canLay0, ints_lay zs]
theorem ints_depth : ∀ ns : List Int, PyData.depthAll (ns.map PyData.int) ≤ 2
  | [] => by simp [PyData.depthAll]
  | z :: zs => by
    have h1 := ints_depth zs
    simp only [List.map_cons, PyData.depthAll, PyData.depth]
    omega
theorem ints_shaped (ns : List Int) : SeqAt.shaped (.list (ns.map PyData.int)) = true := by
  have h1 := ints_depth ns
  have h2 : PyData.depth (.list (ns.map PyData.int)) ≤ 64 := by
    simp only [PyData.depth]
    omega
  show (PyData.canLay0 (.list (ns.map PyData.int)) && decide (PyData.depth (.list (ns.map PyData.int)) ≤ 64)) = true
  rw [Bool.and_eq_true]
  exact ⟨by simp only [PyData.canLay0]; exact ints_lay ns, decide_eq_true h2⟩
theorem dp_ints {K : PySem.W.Frag} {H : Hp} : ∀ ns : List Int, DpAll K H (ns.map V.int) (ns.map PyData.int)
  | [] => .nil
  | z :: zs => .cons (.int z) (dp_ints zs)
theorem ints_nil (ns : List Int) : PyData.eqv (.list (ns.map PyData.int)) (.list []) = ns.isEmpty := by
  cases ns with
  | nil => simp [PyData.eqv, PyData.eqvAll]
  | cons z zs => simp [PyData.eqv, PyData.eqvAll]
/-! ### the stream of draws: the list at a, the numbers left at l, n draws made -/
def StreamAt (H : Hp) (a l : Addr) (n : Nat) : Prop := a ≠ l ∧ ∃ (ns : List Int) (x z : Int), H a = some (.lst [.ref l, .int x, .int (n : Int), .int z]) ∧ H l = some (.lst (ns.map V.int)) ∧ ns.length ≤ 63 ∧ 0 ≤ x ∧ 0 ≤ z ∧ z < 2147483647
/-- all but the stream is kept -/
def Keep (a l : Addr) (H H' : Hp) : Prop := ∀ c o, c ≠ a → c ≠ l → H c = some o → H' c = some o
theorem Keep.refl (a l : Addr) (H : Hp) : Keep a l H H := fun _ _ _ _ h => h
theorem Keep.trans {a l : Addr} {H H1 H2 : Hp} (h : Keep a l H H1) (h' : Keep a l H1 H2) : Keep a l H H2 := fun c o x y e => h' c o x y (h c o x y e)
theorem Keep.of {a l : Addr} {H H' : Hp} (h : Same H H') : Keep a l H H' := fun c o _ _ e => h c o e
theorem StreamAt.same {H H' : Hp} {a l : Addr} {n : Nat} (h : StreamAt H a l n) (s : Same H H') : StreamAt H' a l n := by
  obtain ⟨ne, ns, x, z, h1, h2, h3⟩ := h
  exact ⟨ne, ns, x, z, s _ _ h1, s _ _ h2, h3⟩
def spDraw : Sp := fun vs H Q _ => ∃ (a l : Addr) (n : Nat) (many : Int), vs = [.ref a, .int many] ∧ StreamAt H a l n ∧ n ≤ 100000 ∧ 0 < many ∧ Sm 9000 many ∧
  ∀ (r : Int) (H' : Hp), 0 ≤ r → r < many → StreamAt H' a l (n + 1) → Keep a l H H' → Q (.int r) H'
section
variable {P : Program} {w : World} {K : PySem.W.Frag} {mg : Str → Option Value} {base : Heap} {C : Addr}
theorem scDraw : FnScope ["_law_stream", "_law_many", "_law_digit", "_law_mixed_here"] ["_law_stream", "_law_many"] (defScope sDraw) := ⟨rfl, rfl, rfl, by decide +kernel, rfl, by decide +kernel, by decide +kernel⟩
theorem ok_draw {f : Addr} {fd : FuncData} (F : Fun K "_law_draw" "_law_draw" sDraw f fd) (T : Txt K mg) : FnOk P w K mg base CX0 1 f fd ["_law_stream", "_law_many"] spDraw := by
  refine F.ok scDraw (fun vs H Q E h => ?_) (fun cdv A outer s H vs Q E hr h => ?_)
  · obtain ⟨a, l, n, many, rfl, _⟩ := h
    rfl
  · obtain ⟨a, l, n, many, rfl, ⟨ne, ns, x, z, h1, h2, hl, hx, hz0, hz1⟩, hn, hm, hms, k⟩ := h
    have hW : ∀ j : Int, CDivW j many := fun j => ⟨hm, Nat.lt_of_lt_of_le (PySem.Flt.log2_lt_of (by decide) hms) (Nat.le_refl _)⟩
    refine ⟨_, pss_cut (ps_asg (pe_op op_add (pe_ix ix_list (pv 0) pe_int (fun _ _ => rfl)) pe_int) (pg_sub (pv 0) pe_int set_list))
      (pss_cut (ps_if (PW.pt (pw_and (pt_cmpR op_eq (pe_ix ix_list (pv 0) pe_int (fun _ _ => rfl)) pe_int (nomark _)) (pw_and1 (pt_cmpR (op_neD hr.units) (pe_ix ix_list (pv 0) pe_int (fun _ _ => rfl)) (pe_lst pa_nil) (nomark _)))))
        (pss_cons (ps_asg (pe_bm PySem.F.plainAttrs_list PySem.F.slot_list_pop PySem.F.type_list_pop mt_popAt (pe_ix ix_list (pv 0) pe_int (fun _ _ => rfl)) (pa_cons pe_int pa_nil)) (pg_sub (pv 0) pe_int set_list))
          (pss_one (ps_if (pt_cmpR op_lt (pe_ix ix_list (pv 0) pe_int (fun _ _ => rfl)) (pe_op op_pow pe_int pe_int) (nomark _))
            (pss_cons (ps_asg (pe_op op_mod (pe_callTy call_int1 (by rfl) T.int_ boot_int' (pa_cons (pe_op op_add (pe_op op_add (pe_op op_mul (pe_ix ix_list (pv 0) pe_int (fun _ _ => rfl)) pe_int) (pe_ix ix_list (pv 0) pe_int (fun _ _ => rfl))) pe_int) pa_nil)) pe_int) (pg_sub (pv 0) pe_int set_list))
              (pss_one (ps_asg pe_int (pg_sub (pv 0) pe_int set_list)))) pss_nil))) pss_nil)
      (pss_cons (ps_if (pt_cmpR op_gt (pe_ix ix_list (pv 0) pe_int (fun _ _ => rfl)) pe_int (nomark _))
        (pss_cons (ps_set (i := 2) scDraw.nd rfl (Or.inl rfl) (pe_op op_mod (pe_callTy call_int1 (by rfl) T.int_ boot_int' (pa_cons (pe_ix ix_list (pv 0) pe_int (fun _ _ => rfl)) pa_nil)) (pv 1)))
          (pss_cons (ps_asg (pe_op op_fdivW (pe_ix ix_list (pv 0) pe_int (fun _ _ => rfl)) (pv 1)) (pg_sub (pv 0) pe_int set_list))
            (pss_one (ps_ret (pv 2))))) pss_nil)
      (pss_cons (ps_set (i := 3) scDraw.nd rfl (Or.inl rfl) (pe_op op_mod (pe_op op_pow (pe_op op_add (pe_op op_add (pe_ix ix_list (pv 0) pe_int (fun _ _ => rfl)) (pe_op op_mul pe_int (pe_ix ix_list (pv 0) pe_int (fun _ _ => rfl)))) pe_int) pe_int) pe_int))
      (pss_one (ps_ret (pe_op op_mod (pe_op op_mod (pe_op op_pow (pe_op op_add (pe_op op_add (pe_op op_mul (pv 3) pe_int) (pe_op op_mul (pe_op op_mul pe_int (pe_ix ix_list (pv 0) pe_int (fun _ _ => rfl))) (pe_ix ix_list (pv 0) pe_int (fun _ _ => rfl)))) pe_int) pe_int) pe_int) (pv 1))))))), ?_⟩
    refine ⟨fun σ' H' => σ' = [some (V.ref a), some (V.int many), none, none] ∧ H' = upd H a (.lst [.ref l, .int x, .int ((n : Int) + 1), .int z]), ?_, ?_⟩
    · exact ⟨_, rfl, a, _, 2, _, rfl, rfl, SqL.of h1, rfl, _, _, rfl, rfl, _, rfl, a, _, 2, 2, rfl, rfl, h1, rfl, rfl, rfl⟩
    rintro _ _ ⟨rfl, rfl⟩
    refine ⟨fun σ' H' => σ' = [some (V.ref a), some (V.int many), none, none] ∧ ∃ (ns' : List Int) (x' z' : Int), H' a = some (.lst [.ref l, .int x', .int ((n : Int) + 1), .int z']) ∧ H' l = some (.lst (ns'.map V.int)) ∧ ns'.length ≤ 63 ∧ 0 ≤ x' ∧ 0 ≤ z' ∧ z' < 2147483647 ∧ Keep a l H H', ?_, ?_⟩
    · have kp1 : Keep a l H (upd H a (.lst [.ref l, .int x, .int ((n : Int) + 1), .int z])) := fun c o ca _ e => by rw [upd_ne ca]; exact e
      have hl1 : (upd H a (.lst [.ref l, .int x, .int ((n : Int) + 1), .int z])) l = some (.lst (ns.map V.int)) := by rw [upd_ne ne.symm]; exact h2
      refine ⟨_, rfl, a, _, 1, _, rfl, rfl, SqL.of upd_same, rfl, rfl, _, rfl, ifD_2 (fun hx0 => ?_) (fun _ => iteF ?_)⟩
      · refine ⟨_, rfl, a, _, 0, _, rfl, rfl, SqL.of upd_same, rfl, Nat.zero_le _, fun p hp => ?_⟩
        have npa : a ≠ p := fun e => by rw [← e, upd_same] at hp; cases hp
        have npl : l ≠ p := ne_of_none hl1 hp
        have kp2 : Keep a l H (upd (upd H a (.lst [.ref l, .int x, .int ((n : Int) + 1), .int z])) p (.lst [])) := fun c o ca cl e => by
          rw [upd_ne (ne_of_none (kp1 c o ca cl e) hp)]; exact kp1 c o ca cl e
        refine ⟨.list (ns.map PyData.int), .list [], .lst (SqL.of (by rw [upd_ne npl]; exact hl1)) (dp_ints ns), .lst (SqL.of upd_same) .nil, ints_shaped ns, ints_shaped [], _, rfl, ?_⟩
        rw [ints_nil]
        cases ns with
        | nil => exact iteF ⟨rfl, [], x, z, by rw [upd_ne npa, upd_same], by rw [upd_ne npl]; exact hl1, Nat.zero_le _, hx, hz0, hz1, kp2⟩
        | cons y ys =>
          refine iteT ?_
          have ga : (upd (upd H a (.lst [.ref l, .int x, .int ((n : Int) + 1), .int z])) p (.lst [])) a = some (.lst [.ref l, .int x, .int ((n : Int) + 1), .int z]) := by rw [upd_ne npa, upd_same]
          have gl : (upd (upd H a (.lst [.ref l, .int x, .int ((n : Int) + 1), .int z])) p (.lst [])) l = some (.lst ((y :: ys).map V.int)) := by rw [upd_ne npl]; exact hl1
          generalize (upd (upd H a (.lst [.ref l, .int x, .int ((n : Int) + 1), .int z])) p (.lst [])) = Hb at ga gl kp2
          refine ⟨_, rfl, a, _, 0, _, rfl, rfl, SqL.of ga, rfl, .inl ⟨rfl, _, SqL.of gl⟩, l, _, 0, 0, .int y, rfl, rfl, gl, by decide, by decide, (ixN_seq (Evl.ixN_nat (j := 0) (by simp))).1, rfl, ?_⟩
          have ga2 : (upd Hb l (.lst (((y :: ys).map V.int).eraseIdx 0))) a = some (.lst [.ref l, .int x, .int ((n : Int) + 1), .int z]) := by rw [upd_ne ne]; exact ga
          refine ⟨_, rfl, a, _, 1, 1, rfl, rfl, ga2, rfl, ?_⟩
          have kp3 : ∀ o, Keep a l H (upd (upd Hb l (.lst (((y :: ys).map V.int).eraseIdx 0))) a o) := fun o c u ca cl e => by rw [upd_ne ca, upd_ne cl]; exact kp2 c u ca cl e
          have gl3 : ∀ o, (upd (upd Hb l (.lst (((y :: ys).map V.int).eraseIdx 0))) a o) l = some (.lst (ys.map V.int)) := fun o => by rw [upd_ne ne.symm, upd_same]; rfl
          have hys : ys.length ≤ 63 := Nat.le_trans (Nat.le_succ _) hl
          refine ⟨_, rfl, a, _, 1, _, rfl, rfl, SqL.of upd_same, rfl, 10, 18, rfl, rfl, (by show CPow 10 18; unfold CPow; decide), _, _, rfl, rfl, _, rfl, ifD_2 (fun hy => ?_) (fun hy => ?_)⟩
          · refine ⟨_, rfl, a, _, 3, _, rfl, rfl, SqL.of upd_same, rfl, _, _, rfl, rfl, .inr (by decide), _, rfl, a, _, 1, _, rfl, rfl, SqL.of upd_same, rfl, _, _, rfl, rfl, _, _, rfl, rfl, .inl ⟨_, rfl, _, _, rfl, rfl, (by show (0 : Int) < 2147483647; decide), _, rfl, a, _, 3, 3, rfl, rfl, upd_same, rfl, ?_⟩⟩
            refine ⟨_, rfl, a, _, 1, 1, rfl, rfl, upd_same, rfl, ?_⟩
            rw [upd_upd, upd_upd]
            exact ⟨rfl, ys, 0, (z * 31 + y + 7) % 2147483647, upd_same, gl3 _, hys, by decide, Int.emod_nonneg _ (by decide), Int.emod_lt_of_pos _ (by decide), kp3 _⟩
          · exact ⟨rfl, ys, y, z, upd_same, gl3 _, hys, by
              have h18 : (0 : Int) ≤ 10 ^ (18 : Int).toNat := by decide
              omega, hz0, hz1, kp3 _⟩
      · exact ⟨rfl, ns, x, z, upd_same, hl1, hl, hx, hz0, hz1, kp1⟩
    rintro _ H1 ⟨rfl, ns', x', z', g1, g2, gl, gx, gz0, gz1, kp⟩
    refine ⟨_, rfl, a, _, 1, _, rfl, rfl, SqL.of g1, rfl, _, _, rfl, rfl, _, rfl, ifD_2 (fun hp => ?_) (fun _ => ?_)⟩
    · refine ⟨_, rfl, a, _, 1, _, rfl, rfl, SqL.of g1, rfl, .inl ⟨_, rfl, _, rfl, _, _, rfl, rfl, hm, ?_⟩⟩
      refine ⟨_, rfl, a, _, 1, _, rfl, rfl, SqL.of g1, rfl, _, rfl, _, _, rfl, rfl, hW _, _, rfl, a, _, 1, 1, rfl, rfl, g1, rfl, _, rfl, ?_⟩
      refine k (x' % many) _ (Int.emod_nonneg _ (by omega)) (Int.emod_lt_of_pos _ hm) ⟨ne, ns', x' / many, z', upd_same, by rw [upd_ne ne.symm]; exact g2, gl, Int.ediv_nonneg gx (by omega), gz0, gz1⟩ fun c o ca cl e => by
        rw [upd_ne ca]; exact kp c o ca cl e
    · have hn' : (n : Int) ≤ 100000 := by omega
      have hn0 : (0 : Int) ≤ n := by omega
      refine ⟨_, rfl, a, _, 3, _, rfl, rfl, SqL.of g1, rfl, _, rfl, a, _, 2, _, rfl, rfl, SqL.of g1, rfl, _, _, rfl, rfl, .inl (by decide), _, _, rfl, rfl, _, _, rfl, rfl, _, _, rfl, rfl, ?_, _, _, rfl, rfl, (by show (0 : Int) < 2147483629; decide), ?_⟩
      · show CPow _ 5
        refine ⟨by decide, by decide, ?_⟩
        have e64 : (2 : Nat) ^ 64 = 18446744073709551616 := by decide
        rw [e64]
        omega
      · generalize hmx : ((z' + 104729 * ((n : Int) + 1) + 17) ^ (5 : Int).toNat) % 2147483629 = mx
        have m0 : 0 ≤ mx := by rw [← hmx]; exact Int.emod_nonneg _ (by decide)
        have m1 : mx < 2147483629 := by rw [← hmx]; exact Int.emod_lt_of_pos _ (by decide)
        refine ⟨_, rfl, _, _, rfl, rfl, .inr (by decide), _, rfl, a, _, 2, _, rfl, rfl, SqL.of g1, rfl, _, _, rfl, rfl, .inl (by decide), _, rfl, a, _, 2, _, rfl, rfl, SqL.of g1, rfl, _, _, rfl, rfl, .inr ?_, _, _, rfl, rfl, _, _, rfl, rfl, _, _, rfl, rfl, ?_, _, _, rfl, rfl, (by show (0 : Int) < 1000000007; decide), _, rfl, _, _, rfl, rfl, hm, ?_⟩
        · have e64 : (2 : Int) ^ 64 = 18446744073709551616 := by decide
          rw [e64]
          omega
        · show CPow _ 3
          refine ⟨by decide, by decide, ?_⟩
          have e64 : (2 : Nat) ^ 64 = 18446744073709551616 := by decide
          rw [e64]
          have q0 : 0 ≤ 40503 * ((n : Int) + 1) * ((n : Int) + 1) := Int.mul_nonneg (by omega) (by omega)
          have q1 : 40503 * ((n : Int) + 1) * ((n : Int) + 1) ≤ 40503 * 100001 * 100001 := Int.mul_le_mul (by omega) (by omega) (by omega) (by decide)
          omega
        · exact k _ _ (Int.emod_nonneg _ (by omega)) (Int.emod_lt_of_pos _ hm) ⟨ne, ns', x', z', g1, g2, gl, gx, gz0, gz1⟩ kp
end
theorem sm9000 {x : Int} {n : Nat} (h : Sm n x) (hn : n ≤ 9000) : Sm 9000 x := h.mono hn
theorem sm_small {x : Int} (h : x.natAbs < 8) : Sm 9000 x := sm9000 (n := 3) h (by decide)
def spStart (K : PySem.W.Frag) : Sp := fun vs H Q _ => ∃ (p : Addr) (ns : List Int), vs = [.ref p] ∧ SqL K H p (ns.map V.int) ∧ ns.length ≤ 63 ∧ ∀ (a l : Addr) (H' : Hp), StreamAt H' a l 0 → H a = none → H l = none → Same H H' → Q (.ref a) H'
section
variable {P : Program} {w : World} {K : PySem.W.Frag} {mg : Str → Option Value} {base : Heap} {C : Addr}
theorem scStart : FnScope ["_law_script"] ["_law_script"] (defScope sStart) := ⟨rfl, rfl, rfl, by decide +kernel, rfl, by decide +kernel, by decide +kernel⟩
theorem ok_start {f : Addr} {fd : FuncData} (F : Fun K "_law_start" "_law_start" sStart f fd) (T : Txt K mg) : FnOk P w K mg base CX0 1 f fd ["_law_script"] (spStart K) := by
  refine F.ok scStart (fun vs H Q E h => ?_) (fun cdv A outer s H vs Q E hr h => ?_)
  · obtain ⟨p, ns, rfl, _⟩ := h
    rfl
  · obtain ⟨p, ns, rfl, hS, hl, k⟩ := h
    refine ⟨_, pss_one (ps_ret (pe_lst (pa_cons (pe_callTy call_list_of (by rfl) T.list_ boot_list' (pa_cons (pv 0) pa_nil)) (pa_cons pe_int (pa_cons pe_int (pa_cons pe_int pa_nil)))))), ?_⟩
    refine ⟨_, rfl, p, _, rfl, .inl hS, fun l hl' => ⟨by show 4 ≤ sizeLine; decide, fun a ha => ?_⟩⟩
    have nal : a ≠ l := fun e => by rw [e, upd_same] at ha; cases ha
    have ha0 : H a = Option.none := by rw [upd_ne nal] at ha; exact ha
    exact k a l _ ⟨nal, ns, 0, 0, upd_same, by rw [upd_ne nal.symm, upd_same], hl, by decide, by decide, by decide⟩ ha0 hl' ((new_ hl').trans (new_ ha))
end
theorem StreamAt.ne {H : Hp} {a l p : Addr} {n : Nat} (S : StreamAt H a l n) (h : H p = none) : p ≠ a ∧ p ≠ l := by
  obtain ⟨ne, ns, x, z, h1, h2, _⟩ := S
  exact ⟨(ne_of_none h1 h).symm, (ne_of_none h2 h).symm⟩
theorem sm48 {z : Int} (h1 : 1 ≤ z) (h2 : z ≤ 48) : Sm 9000 z := by
  refine sm9000 (n := 6) ?_ (by decide)
  have e : (2 : Nat) ^ 6 = 64 := by decide
  show z.natAbs < 2 ^ 6
  rw [e]
  omega
theorem StreamAt.at_ {H : Hp} {a l : Addr} {n m : Nat} (S : StreamAt H a l n) (e : n = m) : StreamAt H a l m := e ▸ S
theorem StreamAt.lst {H : Hp} {a l p : Addr} {n : Nat} {xs ys : List V} (S : StreamAt H a l n) (hp : H p = some (.lst xs)) (pa : p ≠ a) (pl : p ≠ l) : StreamAt (upd H p (.lst ys)) a l n := by
  obtain ⟨ne, ns, x, z, h1, h2, h3⟩ := S
  exact ⟨ne, ns, x, z, by rw [upd_ne pa.symm]; exact h1, by rw [upd_ne pl.symm]; exact h2, h3⟩

def spPick : Sp := fun vs H Q _ => ∃ (a l L : Addr) (n : Nat) (xs : List V), vs = [.ref a, .ref L] ∧ StreamAt H a l n ∧ n ≤ 20000 ∧ H L = some (.lst xs) ∧ L ≠ a ∧ L ≠ l ∧ 1 ≤ xs.length ∧ xs.length ≤ 48 ∧
  ∀ (i : Nat) (x : V) (H' : Hp), xs[i]? = some x → StreamAt H' a l (n + 1) → Keep a l H H' → Q x H'
section
variable {P : Program} {w : World} {K : PySem.W.Frag} {mg : Str → Option Value} {base : Heap} {C : Addr}
theorem scPick : FnScope ["_law_stream", "_law_some"] ["_law_stream", "_law_some"] (defScope sPick) := ⟨rfl, rfl, rfl, by decide +kernel, rfl, by decide +kernel, by decide +kernel⟩
theorem ok_pick {f g : Addr} {fd gd : FuncData} (F : Fun K "_law_pick" "_law_pick" sPick f fd) (T : Txt K mg) (D : Df K mg "_law_draw" sDraw g gd ["_law_stream", "_law_many"]) : FnOk P w K mg base CX0 2 f fd ["_law_stream", "_law_some"] spPick := by
  have G : FnOk P w K mg base CX0 1 g gd ["_law_stream", "_law_many"] spDraw := ok_draw D.F T
  refine F.ok scPick (fun vs H Q E h => ?_) (fun cdv A outer s H vs Q E hr h => ?_)
  · obtain ⟨a, l, L, n, _, rfl, _⟩ := h
    rfl
  · obtain ⟨a, l, L, n, xs, rfl, S0, hn, hL, La, Ll, h1, h48, kk⟩ := h
    refine ⟨_, pss_one (ps_ret (pe_ix ix_list (pv 1) (pe_call G hr rfl D.M D.F.kp D.B .nil pass0 (pa_cons (pv 0) (pa_cons (pe_callB call_len_seq (by rfl) T.len_ PySem.boot_len (pa_cons (pv 1) pa_nil)) pa_nil))) (fun _ _ => rfl))), ?_⟩
    refine ⟨_, rfl, _, rfl, _, rfl, L, xs, rfl, .inl (SqL.of hL), a, l, n, _, rfl, S0, by omega, by omega, sm48 (by omega) (by omega), fun r H1 r0 r1 S1 kp1 => ?_⟩
    have hi : r.toNat < xs.length := by omega
    have hx : xs[r.toNat]? = some xs[r.toNat] := List.getElem?_eq_getElem hi
    have ha := atI_nat hx
    rw [Int.toNat_of_nonneg r0] at ha
    exact ⟨L, xs, r, _, rfl, rfl, SqL.of (kp1 _ _ La Ll hL), ha, kk _ _ H1 hx S1 kp1⟩
end
theorem pe_bmF {X : Cx} {K : PySem.W.Frag} (hK : X.K = K) {o e : PySem.Expr} {es : List PySem.Expr} {to : TE} {t : TA} {name : Str} {apos cpos : Pos} {T id : String} {r : V → List V → Hp → VK → Prop} (pa : PlainAttrs T) (sl : Slot T name id) (hty : typeOf (Value.builtin id) = pure (Value.type "method_descriptor")) (hm : MtR X id r) (ho : PE X o to) (ha : PA X (e :: es) t)
    (h1 : attributeBase o name X.env (eval o X.env) = eval o X.env := by rfl)
    (h2 : ((((backTo cpos (starEach (e :: es) X.env)).all fun x => !x.fst) && (backToKw cpos (keywordEach [] X.env)).all fun x => x.fst.isSome) && decide (((e :: es).length + ([] : List Keyword).length + if ([] : List Keyword).isEmpty = true then 0 else 1) < 30)) = true := by rfl)
    (h3 : (apos.endLine == cpos.line) = true := by rfl)
    (h4 : starEach (e :: es) X.env = (false, eval e X.env) :: starEach es X.env := by rfl)
    (h5 : ((backTo cpos (starEach es X.env)).any fun x => x.fst) = false := by rfl) : PE X ((o.Attribute name apos).Call (e :: es) [] cpos) (tBM K T r to t) := by
  subst hK
  exact pe_bm pa sl hty hm ho ha h1 h2 h3 h4 h5
theorem erase_perm {α : Type} {l : List α} {i : Nat} (h : i < l.length) : (l[i] :: l.eraseIdx i).Perm l := by
  rw [List.eraseIdx_eq_take_drop_succ]
  have e : l.take i ++ l[i] :: l.drop (i + 1) = l := by
    rw [← List.drop_eq_getElem_cons h, List.take_append_drop]
  have p : (l.take i ++ l[i] :: l.drop (i + 1)).Perm (l[i] :: (l.take i ++ l.drop (i + 1))) := List.perm_middle
  rw [e] at p
  exact p.symm
theorem keep_updB {a l D : Addr} {H H' : Hp} {o : HO} (k : Keep a l H H') (hD : H D = Option.none) : Keep a l H (upd H' D o) := fun c u ca cl e => by
  rw [upd_ne (ne_of_none e hD)]
  exact k c u ca cl e
theorem keep_none {a l : Addr} {H H' : Hp} {p : Addr} (k : Keep a l H H') (pa : p ≠ a) (pl : p ≠ l) (h : H' p = Option.none) : H p = Option.none := by
  cases e : H p with
  | none => rfl
  | some o => rw [k p o pa pl e] at h; cases h
def spMixed : Sp := fun vs H Q _ => ∃ (a l L : Addr) (n : Nat) (xs : List V), vs = [.ref a, .ref L] ∧ StreamAt H a l n ∧ n ≤ 20000 ∧ H L = some (.lst xs) ∧ xs.length ≤ 48 ∧
  ∀ (t : Addr) (ys : List V) (H' : Hp), H' t = some (.lst ys) → ys.Perm xs → t ≠ a → t ≠ l → H t = none → StreamAt H' a l (n + xs.length) → Keep a l H H' → Q (.ref t) H'
section
variable {P : Program} {w : World} {K : PySem.W.Frag} {mg : Str → Option Value} {base : Heap} {C : Addr}
theorem scMixed : FnScope ["_law_stream", "_law_some", "_law_left", "_law_k"] ["_law_stream", "_law_some"] (defScope sMixed) := ⟨rfl, rfl, rfl, by decide +kernel, rfl, by decide +kernel, by decide +kernel⟩
theorem ok_mixed {f g : Addr} {fd gd : FuncData} (F : Fun K "_law_mixed" "_law_mixed" sMixed f fd) (T : Txt K mg) (D : Df K mg "_law_draw" sDraw g gd ["_law_stream", "_law_many"]) : FnOk P w K mg base CX0 2 f fd ["_law_stream", "_law_some"] spMixed := by
  have G : FnOk P w K mg base CX0 1 g gd ["_law_stream", "_law_many"] spDraw := ok_draw D.F T
  refine F.ok scMixed (fun vs H Q E h => ?_) (fun cdv A outer s H vs Q E hr h => ?_)
  · obtain ⟨a, l, L, n, _, rfl, _⟩ := h
    rfl
  · obtain ⟨a, l, L, n, xs, rfl, S0, hn, hL, h48, kk⟩ := h
    refine ⟨_, pss_cons (ps_set (i := 2) scMixed.nd rfl (Or.inr rfl) (pe_callTy call_list_of (by rfl) T.list_ boot_list' (pa_cons (pv 1) pa_nil)))
      (pss_one (ps_ret (pe_lc (own := [("_law_k", 3)]) (g := gName 3) (tt := tYes) (by rfl) scMixed.nd (pi_range1 (by rfl) T.range_ (pa_cons (pe_callB call_len_seq (by rfl) T.len_ PySem.boot_len (pa_cons (pv 2) pa_nil)) pa_nil)) (blkOk_by (N := ["_law_stream", "_law_some", "_law_left", "_law_k"]) (sc := defScope sMixed) (by decide +kernel))
          (fun _ _ _ _ _ => pg_name (i := 3) scMixed.nd rfl (Or.inl rfl)) (fun _ _ _ _ _ => pts_nil)
          (fun _ _ _ _ _ => pe_bmF (K := K) rfl PySem.F.plainAttrs_list PySem.F.slot_list_pop PySem.F.type_list_pop mt_popAt (pv 2) (pa_cons (pe_call G hr rfl D.M D.F.kp D.B .nil pass0 (pa_cons (pv 0) (pa_cons (pe_callB (call_lenK (K := K) rfl) (by rfl) T.len_ PySem.boot_len (pa_cons (pv 2) pa_nil)) pa_nil))) pa_nil))))), ?_⟩
    refine ⟨_, rfl, L, xs, rfl, .inl (SqL.of hL), fun W hW => ?_⟩
    have sW := new_ (o := .lst xs) hW
    obtain ⟨Wa, Wl⟩ := S0.ne hW
    refine ⟨_, rfl, W, _, rfl, .inl (SqL.of upd_same), _, rfl, by omega, by omega, fun Dd hD => ?_⟩
    have hD0 : H Dd = none := by
      cases e : H Dd with
      | none => rfl
      | some o => have := sW _ _ e; rw [hD] at this; cases this
    obtain ⟨Da, Dl⟩ := S0.ne hD0
    have neWD : W ≠ Dd := fun e => by rw [← e, upd_same] at hD; cases hD
    have S1 := (S0.same sW).same (new_ (o := .lst []) hD)
    refine lc_range (n := xs.length) (fun i H' => StreamAt H' a l (n + i) ∧ Keep a l H H' ∧ ∃ left acc, H' W = some (.lst left) ∧ H' Dd = some (.lst acc) ∧ acc.length = i ∧ left.length + i = xs.length ∧ (acc ++ left).Perm xs) ?_ ?_ ?_
    · exact ⟨S1, keep_updB (keep_updB (Keep.refl _ _ _) hW) hD0, xs, [], by rw [upd_ne neWD]; exact upd_same, upd_same, rfl, rfl, List.Perm.refl _⟩
    · rintro i H2 hi ⟨S2, k2, left, acc, hw, hd, hl, hll, hp⟩
      refine ⟨rfl, ?_⟩
      dsimp only [tYes]
      rw [if_pos rfl]
      refine ⟨_, rfl, .inl ⟨rfl, _, SqL.of hw⟩, _, rfl, _, rfl, W, left, rfl, .inl (SqL.of hw), a, l, _, _, rfl, S2, by omega, by omega, sm48 (by omega) (by omega), fun r H3 r0 r1 S3 k3 => ?_⟩
      have hw3 := k3 _ _ Wa Wl hw
      have hd3 := k3 _ _ Da Dl hd
      have hlt : r.toNat < left.length := by omega
      have hx : left[r.toNat]? = some left[r.toNat] := List.getElem?_eq_getElem hlt
      have hsi : seqIndex? r left.length = some r.toNat := by
        unfold seqIndex?
        have e : ¬ r < 0 := by omega
        have e2 : r < (left.length : Int) := by omega
        simp [e, r0, e2]
      refine ⟨W, left, r, r.toNat, left[r.toNat], rfl, rfl, hw3, by omega, by omega, hsi, hx, ?_⟩
      refine ⟨acc, by rw [upd_ne neWD.symm]; exact hd3, Nat.lt_of_lt_of_le (by omega : acc.length < 49) (by decide), ?_⟩
      have hw4 : (upd H3 W (.lst (left.eraseIdx r.toNat))) Dd = some (.lst acc) := by rw [upd_ne neWD.symm]; exact hd3
      refine ⟨(S3.lst hw3 Wa Wl).lst hw4 Da Dl |>.at_ (by omega), keep_updB (keep_updB (k2.trans k3) hW) hD0, left.eraseIdx r.toNat, acc ++ [left[r.toNat]], by rw [upd_ne neWD]; exact upd_same, upd_same, by rw [List.length_append, hl]; rfl, by rw [List.length_eraseIdx_of_lt hlt]; omega, ?_⟩
      refine List.Perm.trans ?_ hp
      rw [List.append_assoc]
      exact List.Perm.append_left _ (erase_perm hlt)
    · rintro H2 ⟨S2, k2, left, acc, hw, hd, hl, hll, hp⟩
      have : left = [] := List.length_eq_zero_iff.mp (by omega)
      subst this
      rw [List.append_nil] at hp
      exact kk Dd acc H2 hd hp Da Dl hD0 S2 k2
end
end PA

set_option maxHeartbeats 4000000
namespace PA
open PySem L2 RZ
/-! ### a comprehension over zip -/
section
variable {K : PySem.W.Frag} {a b : Addr} {xs ys : List V} {g : TG} {tt : TT} {te : TE} {vs : List Nat} {σ : L2.St} {H1 : Hp} {D : Addr} {Qd : Hp → Prop}
theorem lc_zipL (hl : xs.length = ys.length) (Pv : Nat → Hp → Prop) (h0 : Pv 0 (upd H1 D (.lst []))) (hq : ∀ i H, Pv i H → SqL K H a xs ∧ SqL K H b ys)
    (hs : ∀ (i : Nat) (x y : V) (T : Addr) (H : Hp), xs[i]? = some x → ys[i]? = some y → Pv i H → H T = none → g (.ref T) (wipe σ vs) (upd H T (.tup [x, y])) fun σ2 H2 => wipe σ2 vs = wipe σ vs ∧ tt σ2 H2 fun c H3 =>
      if c = true then te σ2 H3 fun z H4 => ∃ acc, H4 D = some (.lst acc) ∧ acc.length < sizeLine ∧ Pv (i + 1) (upd H4 D (.lst (acc ++ [z]))) else Pv (i + 1) H3) (hd : ∀ H, Pv xs.length H → Qd H) :
    ∃ W : Nat → Nat → Hp → Prop, (∃ m, W 0 m (upd H1 D (.lst []))) ∧ ∀ i m H, W i m H →
      ((Itz K a b).stop i H ∧ Qd H) ∨ ((Itz K a b).go i H ∧ ∃ Nx : Hp → Prop, (∀ H', Nx H' → ∃ m', m' < m ∧ W (i + 1) m' H') ∧ ∀ x H', (Itz K a b).yld i H x H' → g x (wipe σ vs) H' fun σ2 H2 => wipe σ2 vs = wipe σ vs ∧ tt σ2 H2 fun c H3 =>
        if c = true then te σ2 H3 fun z H4 => ∃ acc, H4 D = some (.lst acc) ∧ acc.length < sizeLine ∧ Nx (upd H4 D (.lst (acc ++ [z]))) else Nx H3) := by
  refine ⟨fun i m H => m = xs.length - i ∧ i ≤ xs.length ∧ Pv i H, ⟨xs.length, rfl, Nat.zero_le _, h0⟩, ?_⟩
  rintro i m H ⟨rfl, hi, p⟩
  obtain ⟨qx, qy⟩ := hq i H p
  by_cases hlt : i < xs.length
  · have hx : xs[i]? = some xs[i] := List.getElem?_eq_getElem hlt
    have hlt2 : i < ys.length := by omega
    have hy : ys[i]? = some ys[i] := List.getElem?_eq_getElem hlt2
    refine .inr ⟨⟨xs, ys, _, _, qx, qy, hx, hy⟩, Pv (i + 1), fun H' p' => ⟨xs.length - (i + 1), by omega, rfl, hlt, p'⟩, fun v H' y => ?_⟩
    obtain ⟨T, x', y', rfl, hT, rfl, f1, f2⟩ := y
    exact hs i x' y' T H (f1 xs qx) (f2 ys qy) p hT
  · have e : i = xs.length := by omega
    subst e
    exact .inl ⟨⟨xs, ys, qx, qy, Or.inl (Nat.le_refl _)⟩, hd H p⟩
theorem lc_zipT (hl : xs.length = ys.length) (Pv : Nat → Hp → Prop) (h0 : Pv 0 (upd H1 D (.lst []))) (hq : ∀ i H, Pv i H → SqT K H a xs ∧ SqT K H b ys)
    (hs : ∀ (i : Nat) (x y : V) (T : Addr) (H : Hp), xs[i]? = some x → ys[i]? = some y → Pv i H → H T = none → g (.ref T) (wipe σ vs) (upd H T (.tup [x, y])) fun σ2 H2 => wipe σ2 vs = wipe σ vs ∧ tt σ2 H2 fun c H3 =>
      if c = true then te σ2 H3 fun z H4 => ∃ acc, H4 D = some (.lst acc) ∧ acc.length < sizeLine ∧ Pv (i + 1) (upd H4 D (.lst (acc ++ [z]))) else Pv (i + 1) H3) (hd : ∀ H, Pv xs.length H → Qd H) :
    ∃ W : Nat → Nat → Hp → Prop, (∃ m, W 0 m (upd H1 D (.lst []))) ∧ ∀ i m H, W i m H →
      ((ItzT K a b).stop i H ∧ Qd H) ∨ ((ItzT K a b).go i H ∧ ∃ Nx : Hp → Prop, (∀ H', Nx H' → ∃ m', m' < m ∧ W (i + 1) m' H') ∧ ∀ x H', (ItzT K a b).yld i H x H' → g x (wipe σ vs) H' fun σ2 H2 => wipe σ2 vs = wipe σ vs ∧ tt σ2 H2 fun c H3 =>
        if c = true then te σ2 H3 fun z H4 => ∃ acc, H4 D = some (.lst acc) ∧ acc.length < sizeLine ∧ Nx (upd H4 D (.lst (acc ++ [z]))) else Nx H3) := by
  refine ⟨fun i m H => m = xs.length - i ∧ i ≤ xs.length ∧ Pv i H, ⟨xs.length, rfl, Nat.zero_le _, h0⟩, ?_⟩
  rintro i m H ⟨rfl, hi, p⟩
  obtain ⟨qx, qy⟩ := hq i H p
  by_cases hlt : i < xs.length
  · have hx : xs[i]? = some xs[i] := List.getElem?_eq_getElem hlt
    have hlt2 : i < ys.length := by omega
    have hy : ys[i]? = some ys[i] := List.getElem?_eq_getElem hlt2
    refine .inr ⟨⟨xs, ys, _, _, qx, qy, hx, hy⟩, Pv (i + 1), fun H' p' => ⟨xs.length - (i + 1), by omega, rfl, hlt, p'⟩, fun v H' y => ?_⟩
    obtain ⟨T, x', y', rfl, hT, rfl, f1, f2⟩ := y
    exact hs i x' y' T H (f1 xs qx) (f2 ys qy) p hT
  · have e : i = xs.length := by omega
    subst e
    exact .inl ⟨⟨xs, ys, qx, qy, Or.inl (Nat.le_refl _)⟩, hd H p⟩
end
/-! ### two values that are the same, to the depth n: ints, bools, lists and tuples of such -/
inductive Two (K : PySem.W.Frag) (H : Hp) : Nat → V → V → Prop where
  | bl (n : Nat) (b : Bool) : Two K H n (.bl b) (.bl b)
  | int (n : Nat) (i : Int) : Two K H n (.int i) (.int i)
  | non (n : Nat) : Two K H n .non .non
  | str (n : Nat) (x : Str) : Two K H n (.str x) (.str x)
  | lst {n : Nat} {a b : Addr} {xs ys : List V} (ha : H a = some (.lst xs)) (hb : H b = some (.lst ys)) (hl : xs.length = ys.length) (hsz : xs.length ≤ sizeLine) (hi : ∀ (i : Nat) (x y : V), xs[i]? = some x → ys[i]? = some y → Two K H n x y) : Two K H (n + 1) (.ref a) (.ref b)
  | tup {n : Nat} {a b : Addr} {xs ys : List V} (ha : SqT K H a xs) (hb : SqT K H b ys) (hl : xs.length = ys.length) (hsz : xs.length ≤ sizeLine) (hi : ∀ (i : Nat) (x y : V), xs[i]? = some x → ys[i]? = some y → Two K H n x y) : Two K H (n + 1) (.ref a) (.ref b)
theorem Two.same {K : PySem.W.Frag} {H H' : Hp} {n : Nat} {x y : V} (t : Two K H n x y) (s : Same H H') : Two K H' n x y := by
  induction t with
  | bl n b => exact .bl n b
  | int n i => exact .int n i
  | non n => exact .non n
  | str n x => exact .str n x
  | lst ha hb hl hz _ ih => exact .lst (s _ _ ha) (s _ _ hb) hl hz ih
  | tup ha hb hl hz _ ih => exact .tup (SqT.up ha s) (SqT.up hb s) hl hz ih
theorem tyT {K : PySem.W.Frag} {H : Hp} {a : Addr} {xs : List V} (h : SqT K H a xs) : TyX K H (.ref a) (.type "tuple") := by
  rcases h with (h | ⟨ob, h⟩) | ⟨o, its, n, h1, h2, _⟩
  · exact .base (.tup h)
  · exact .fTuple h
  · exact .kTuple h1 h2
def spSame (K : PySem.W.Frag) (n : Nat) : Sp := fun vs H Q _ => ∃ x y, vs = [x, y] ∧ Two K H n x y ∧ ∀ H', Same H H' → Q (.bl true) H'
section
variable {P : Program} {w : World} {K : PySem.W.Frag} {mg : Str → Option Value} {base : Heap} {C : Addr}
theorem scSame : FnScope ["_law_found", "_law_due", "_law_one", "_law_other"] ["_law_found", "_law_due"] (defScope sSame) := ⟨rfl, rfl, rfl, by decide +kernel, rfl, by decide +kernel, by decide +kernel⟩
theorem kit2 {t : String} {b1 b2 r : Bool} (h1 : kitB t "list" = some b1) (h2 : kitB t "tuple" = some b2) (hr : (b1 || b2) = r) : PySem.W.kitAny K (.type t) [.type "list", .type "tuple"] = some r := by
  subst hr
  refine kitAny_cons (b := b1) (kit_ty h1) (fun e => ?_) (fun e => by rw [e]; rfl)
  subst e
  refine kitAny_cons (b := b2) (kit_ty h2) (fun e => ?_) (fun e => by rw [e]; rfl)
  subst e
  exact kitAny_nil
theorem kit3 {t : String} (h1 : kitB t "int" = some false) (h2 : kitB t "list" = some false) (h3 : kitB t "tuple" = some false) : PySem.W.kitAny K (.type t) [.type "int", .type "list", .type "tuple"] = some false := by
  refine kitAny_cons (b := false) (kit_ty h1) (fun _ => ?_) (fun e => by cases e)
  refine kitAny_cons (b := false) (kit_ty h2) (fun _ => ?_) (fun e => by cases e)
  refine kitAny_cons (b := false) (kit_ty h3) (fun _ => ?_) (fun e => by cases e)
  exact kitAny_nil
theorem ok_same {f : Addr} {fd : FuncData} (D : Df K mg "_law_same" sSame f fd ["_law_found", "_law_due"]) (T : Txt K mg) : ∀ n : Nat, FnOk P w K mg base CX0 (n + 1) f fd ["_law_found", "_law_due"] (spSame K n) := by
  have hlen : ∀ n, ∀ vs H Q E, spSame K n vs H Q E → vs.length = (["_law_found", "_law_due"] : List Str).length := fun n vs H Q E h => by
    obtain ⟨x, y, rfl, _⟩ := h
    rfl
  intro n
  induction n with
  | zero =>
    refine D.F.ok scSame (hlen 0) (fun cdv A outer s H vs Q E hr h => ?_)
    obtain ⟨x, y, rfl, t, k⟩ := h
    cases t with
    | int _ i =>
      refine ⟨_, pss_cons (ps_if (pt_val (pe_callB call_isiT (by rfl) T.isi boot_isi (pa_cons (pv 1) (pa_cons (pe_tup (pa_cons (pe_bltn (v := .ty "list") (by rfl) T.list_ boot_list' rfl) (pa_cons (pe_bltn (v := .ty "tuple") (by rfl) T.tup_ boot_tuple' rfl) pa_nil))) pa_nil)))) pss_never pss_nil)
      (pss_cons (ps_if (pt_val (pe_callB call_isi (by rfl) T.isi boot_isi (pa_cons (pv 1) (pa_cons (pe_bltn (v := .ty "int") (by rfl) T.int_ boot_int' rfl) pa_nil))))
        (pss_one (ps_ret (pe_and (pe_callB call_isi (by rfl) T.isi boot_isi (pa_cons (pv 0) (pa_cons (pe_bltn (v := .ty "int") (by rfl) T.int_ boot_int' rfl) pa_nil)))
          (pe_and (pe_cmpR op_eq (pe_callB call_isi (by rfl) T.isi boot_isi (pa_cons (pv 0) (pa_cons (pe_bltn (v := .ty "bool") (by rfl) T.bool_ boot_bool' rfl) pa_nil))) (pe_callB call_isi (by rfl) T.isi boot_isi (pa_cons (pv 1) (pa_cons (pe_bltn (v := .ty "bool") (by rfl) T.bool_ boot_bool' rfl) pa_nil))) (nomark _))
            (pe_one (pe_cmpR op_eq (pv 0) (pv 1) (nomark _))))))) pss_nil) pss_never), ?_⟩
      refine ⟨_, rfl, by show 2 ≤ sizeLine; decide, fun tp htp => ⟨_, tp, _, _, [.type "list", .type "tuple"], _, rfl, upd_same, .cons (.ty _) (.cons (.ty _) .nil), .base (.int i), kit2 (b1 := false) (b2 := false) (by decide +kernel) (by decide +kernel) rfl, _, rfl, iteF ?_⟩⟩
      refine ⟨_, rfl, _, _, _, _, _, rfl, .ty _, .base (.int i), kit_ty (b := "int") (r := true) (by decide +kernel), _, rfl, iteT ?_⟩
      refine ⟨_, rfl, _, _, _, _, _, rfl, .ty _, .base (.int i), kit_ty (b := "int") (r := true) (by decide +kernel), _, rfl, iteT ?_⟩
      refine ⟨_, rfl, _, _, _, _, _, rfl, .ty _, .base (.int i), kit_ty (b := "bool") (r := false) (by decide +kernel), _, rfl, _, _, _, _, _, rfl, .ty _, .base (.int i), kit_ty (b := "bool") (r := false) (by decide +kernel), rfl, _, rfl, ifD_yes rfl ?_⟩
      refine ⟨_, rfl, _, rfl, rfl, ?_⟩
      show Q (V.bl (decide (V.int i = V.int i))) _
      rw [decide_eq_true rfl]
      exact k _ (new_ htp)
    | bl _ b =>
      refine ⟨_, pss_cons (ps_if (pt_val (pe_callB call_isiT (by rfl) T.isi boot_isi (pa_cons (pv 1) (pa_cons (pe_tup (pa_cons (pe_bltn (v := .ty "list") (by rfl) T.list_ boot_list' rfl) (pa_cons (pe_bltn (v := .ty "tuple") (by rfl) T.tup_ boot_tuple' rfl) pa_nil))) pa_nil)))) pss_never pss_nil)
      (pss_cons (ps_if (pt_val (pe_callB call_isi (by rfl) T.isi boot_isi (pa_cons (pv 1) (pa_cons (pe_bltn (v := .ty "int") (by rfl) T.int_ boot_int' rfl) pa_nil))))
        (pss_one (ps_ret (pe_and (pe_callB call_isi (by rfl) T.isi boot_isi (pa_cons (pv 0) (pa_cons (pe_bltn (v := .ty "int") (by rfl) T.int_ boot_int' rfl) pa_nil)))
          (pe_and (pe_cmpR op_eq (pe_callB call_isi (by rfl) T.isi boot_isi (pa_cons (pv 0) (pa_cons (pe_bltn (v := .ty "bool") (by rfl) T.bool_ boot_bool' rfl) pa_nil))) (pe_callB call_isi (by rfl) T.isi boot_isi (pa_cons (pv 1) (pa_cons (pe_bltn (v := .ty "bool") (by rfl) T.bool_ boot_bool' rfl) pa_nil))) (nomark _))
            (pe_one (pe_cmpR op_eq (pv 0) (pv 1) (nomark _))))))) pss_nil) pss_never), ?_⟩
      refine ⟨_, rfl, by show 2 ≤ sizeLine; decide, fun tp htp => ⟨_, tp, _, _, [.type "list", .type "tuple"], _, rfl, upd_same, .cons (.ty _) (.cons (.ty _) .nil), .base (.bl b), kit2 (b1 := false) (b2 := false) (by decide +kernel) (by decide +kernel) rfl, _, rfl, iteF ?_⟩⟩
      refine ⟨_, rfl, _, _, _, _, _, rfl, .ty _, .base (.bl b), kit_ty (b := "int") (r := true) (by decide +kernel), _, rfl, iteT ?_⟩
      refine ⟨_, rfl, _, _, _, _, _, rfl, .ty _, .base (.bl b), kit_ty (b := "int") (r := true) (by decide +kernel), _, rfl, iteT ?_⟩
      refine ⟨_, rfl, _, _, _, _, _, rfl, .ty _, .base (.bl b), kit_ty (b := "bool") (r := true) (by decide +kernel), _, rfl, _, _, _, _, _, rfl, .ty _, .base (.bl b), kit_ty (b := "bool") (r := true) (by decide +kernel), rfl, _, rfl, ifD_yes rfl ?_⟩
      refine ⟨_, rfl, _, rfl, rfl, ?_⟩
      show Q (V.bl (decide (V.bl b = V.bl b))) _
      rw [decide_eq_true rfl]
      exact k _ (new_ htp)
    | non _ =>
      refine ⟨_, pss_cons (ps_if (pt_val (pe_callB call_isiT (by rfl) T.isi boot_isi (pa_cons (pv 1) (pa_cons (pe_tup (pa_cons (pe_bltn (v := .ty "list") (by rfl) T.list_ boot_list' rfl) (pa_cons (pe_bltn (v := .ty "tuple") (by rfl) T.tup_ boot_tuple' rfl) pa_nil))) pa_nil)))) pss_never pss_nil)
      (pss_cons (ps_if (pt_val (pe_callB call_isi (by rfl) T.isi boot_isi (pa_cons (pv 1) (pa_cons (pe_bltn (v := .ty "int") (by rfl) T.int_ boot_int' rfl) pa_nil)))) pss_never pss_nil)
      (pss_one (ps_ret (pe_and (pe_cmpR op_eq (pv 0) (pv 1) (nomark _)) (pe_one (pe_cmpR op_is_bl (pe_callB call_isiT (by rfl) T.isi boot_isi (pa_cons (pv 0) (pa_cons (pe_tup (pa_cons (pe_bltn (v := .ty "int") (by rfl) T.int_ boot_int' rfl) (pa_cons (pe_bltn (v := .ty "list") (by rfl) T.list_ boot_list' rfl) (pa_cons (pe_bltn (v := .ty "tuple") (by rfl) T.tup_ boot_tuple' rfl) pa_nil)))) pa_nil))) pe_bl (nomark _))))))), ?_⟩
      refine ⟨_, rfl, by show 2 ≤ sizeLine; decide, fun tp htp => ⟨_, tp, _, _, [.type "list", .type "tuple"], _, rfl, upd_same, .cons (.ty _) (.cons (.ty _) .nil), .base .non, kit2 (b1 := false) (b2 := false) (by decide +kernel) (by decide +kernel) rfl, _, rfl, iteF ?_⟩⟩
      refine ⟨_, rfl, _, _, _, _, _, rfl, .ty _, .base .non, kit_ty (b := "int") (r := false) (by decide +kernel), _, rfl, iteF ?_⟩
      refine ⟨_, rfl, _, rfl, rfl, _, rfl, ifD_yes rfl ?_⟩
      refine ⟨_, rfl, by show 3 ≤ sizeLine; decide, fun tq htq => ⟨_, tq, _, _, [.type "int", .type "list", .type "tuple"], _, rfl, upd_same, .cons (.ty _) (.cons (.ty _) (.cons (.ty _) .nil)), .base .non, kit3 (by decide +kernel) (by decide +kernel) (by decide +kernel), _, _, rfl, rfl, ?_⟩⟩
      exact k _ ((new_ htp).trans (new_ htq))
    | str _ x =>
      refine ⟨_, pss_cons (ps_if (pt_val (pe_callB call_isiT (by rfl) T.isi boot_isi (pa_cons (pv 1) (pa_cons (pe_tup (pa_cons (pe_bltn (v := .ty "list") (by rfl) T.list_ boot_list' rfl) (pa_cons (pe_bltn (v := .ty "tuple") (by rfl) T.tup_ boot_tuple' rfl) pa_nil))) pa_nil)))) pss_never pss_nil)
      (pss_cons (ps_if (pt_val (pe_callB call_isi (by rfl) T.isi boot_isi (pa_cons (pv 1) (pa_cons (pe_bltn (v := .ty "int") (by rfl) T.int_ boot_int' rfl) pa_nil)))) pss_never pss_nil)
      (pss_one (ps_ret (pe_and (pe_cmpR op_eq (pv 0) (pv 1) (nomark _)) (pe_one (pe_cmpR op_is_bl (pe_callB call_isiT (by rfl) T.isi boot_isi (pa_cons (pv 0) (pa_cons (pe_tup (pa_cons (pe_bltn (v := .ty "int") (by rfl) T.int_ boot_int' rfl) (pa_cons (pe_bltn (v := .ty "list") (by rfl) T.list_ boot_list' rfl) (pa_cons (pe_bltn (v := .ty "tuple") (by rfl) T.tup_ boot_tuple' rfl) pa_nil)))) pa_nil))) pe_bl (nomark _))))))), ?_⟩
      refine ⟨_, rfl, by show 2 ≤ sizeLine; decide, fun tp htp => ⟨_, tp, _, _, [.type "list", .type "tuple"], _, rfl, upd_same, .cons (.ty _) (.cons (.ty _) .nil), .base (.str x), kit2 (b1 := false) (b2 := false) (by decide +kernel) (by decide +kernel) rfl, _, rfl, iteF ?_⟩⟩
      refine ⟨_, rfl, _, _, _, _, _, rfl, .ty _, .base (.str x), kit_ty (b := "int") (r := false) (by decide +kernel), _, rfl, iteF ?_⟩
      refine ⟨_, rfl, _, rfl, rfl, _, rfl, ifD_yes rfl ?_⟩
      refine ⟨_, rfl, by show 3 ≤ sizeLine; decide, fun tq htq => ⟨_, tq, _, _, [.type "int", .type "list", .type "tuple"], _, rfl, upd_same, .cons (.ty _) (.cons (.ty _) (.cons (.ty _) .nil)), .base (.str x), kit3 (by decide +kernel) (by decide +kernel) (by decide +kernel), _, _, rfl, rfl, ?_⟩⟩
      exact k _ ((new_ htp).trans (new_ htq))
  | succ n ih =>
    refine D.F.ok scSame (hlen (n + 1)) (fun cdv A outer s H vs Q E hr h => ?_)
    obtain ⟨x, y, rfl, t, k⟩ := h
    cases t with
    | int _ i =>
      refine ⟨_, pss_cons (ps_if (pt_val (pe_callB call_isiT (by rfl) T.isi boot_isi (pa_cons (pv 1) (pa_cons (pe_tup (pa_cons (pe_bltn (v := .ty "list") (by rfl) T.list_ boot_list' rfl) (pa_cons (pe_bltn (v := .ty "tuple") (by rfl) T.tup_ boot_tuple' rfl) pa_nil))) pa_nil)))) pss_never pss_nil)
      (pss_cons (ps_if (pt_val (pe_callB call_isi (by rfl) T.isi boot_isi (pa_cons (pv 1) (pa_cons (pe_bltn (v := .ty "int") (by rfl) T.int_ boot_int' rfl) pa_nil))))
        (pss_one (ps_ret (pe_and (pe_callB call_isi (by rfl) T.isi boot_isi (pa_cons (pv 0) (pa_cons (pe_bltn (v := .ty "int") (by rfl) T.int_ boot_int' rfl) pa_nil)))
          (pe_and (pe_cmpR op_eq (pe_callB call_isi (by rfl) T.isi boot_isi (pa_cons (pv 0) (pa_cons (pe_bltn (v := .ty "bool") (by rfl) T.bool_ boot_bool' rfl) pa_nil))) (pe_callB call_isi (by rfl) T.isi boot_isi (pa_cons (pv 1) (pa_cons (pe_bltn (v := .ty "bool") (by rfl) T.bool_ boot_bool' rfl) pa_nil))) (nomark _))
            (pe_one (pe_cmpR op_eq (pv 0) (pv 1) (nomark _))))))) pss_nil) pss_never), ?_⟩
      refine ⟨_, rfl, by show 2 ≤ sizeLine; decide, fun tp htp => ⟨_, tp, _, _, [.type "list", .type "tuple"], _, rfl, upd_same, .cons (.ty _) (.cons (.ty _) .nil), .base (.int i), kit2 (b1 := false) (b2 := false) (by decide +kernel) (by decide +kernel) rfl, _, rfl, iteF ?_⟩⟩
      refine ⟨_, rfl, _, _, _, _, _, rfl, .ty _, .base (.int i), kit_ty (b := "int") (r := true) (by decide +kernel), _, rfl, iteT ?_⟩
      refine ⟨_, rfl, _, _, _, _, _, rfl, .ty _, .base (.int i), kit_ty (b := "int") (r := true) (by decide +kernel), _, rfl, iteT ?_⟩
      refine ⟨_, rfl, _, _, _, _, _, rfl, .ty _, .base (.int i), kit_ty (b := "bool") (r := false) (by decide +kernel), _, rfl, _, _, _, _, _, rfl, .ty _, .base (.int i), kit_ty (b := "bool") (r := false) (by decide +kernel), rfl, _, rfl, ifD_yes rfl ?_⟩
      refine ⟨_, rfl, _, rfl, rfl, ?_⟩
      show Q (V.bl (decide (V.int i = V.int i))) _
      rw [decide_eq_true rfl]
      exact k _ (new_ htp)
    | bl _ b =>
      refine ⟨_, pss_cons (ps_if (pt_val (pe_callB call_isiT (by rfl) T.isi boot_isi (pa_cons (pv 1) (pa_cons (pe_tup (pa_cons (pe_bltn (v := .ty "list") (by rfl) T.list_ boot_list' rfl) (pa_cons (pe_bltn (v := .ty "tuple") (by rfl) T.tup_ boot_tuple' rfl) pa_nil))) pa_nil)))) pss_never pss_nil)
      (pss_cons (ps_if (pt_val (pe_callB call_isi (by rfl) T.isi boot_isi (pa_cons (pv 1) (pa_cons (pe_bltn (v := .ty "int") (by rfl) T.int_ boot_int' rfl) pa_nil))))
        (pss_one (ps_ret (pe_and (pe_callB call_isi (by rfl) T.isi boot_isi (pa_cons (pv 0) (pa_cons (pe_bltn (v := .ty "int") (by rfl) T.int_ boot_int' rfl) pa_nil)))
          (pe_and (pe_cmpR op_eq (pe_callB call_isi (by rfl) T.isi boot_isi (pa_cons (pv 0) (pa_cons (pe_bltn (v := .ty "bool") (by rfl) T.bool_ boot_bool' rfl) pa_nil))) (pe_callB call_isi (by rfl) T.isi boot_isi (pa_cons (pv 1) (pa_cons (pe_bltn (v := .ty "bool") (by rfl) T.bool_ boot_bool' rfl) pa_nil))) (nomark _))
            (pe_one (pe_cmpR op_eq (pv 0) (pv 1) (nomark _))))))) pss_nil) pss_never), ?_⟩
      refine ⟨_, rfl, by show 2 ≤ sizeLine; decide, fun tp htp => ⟨_, tp, _, _, [.type "list", .type "tuple"], _, rfl, upd_same, .cons (.ty _) (.cons (.ty _) .nil), .base (.bl b), kit2 (b1 := false) (b2 := false) (by decide +kernel) (by decide +kernel) rfl, _, rfl, iteF ?_⟩⟩
      refine ⟨_, rfl, _, _, _, _, _, rfl, .ty _, .base (.bl b), kit_ty (b := "int") (r := true) (by decide +kernel), _, rfl, iteT ?_⟩
      refine ⟨_, rfl, _, _, _, _, _, rfl, .ty _, .base (.bl b), kit_ty (b := "int") (r := true) (by decide +kernel), _, rfl, iteT ?_⟩
      refine ⟨_, rfl, _, _, _, _, _, rfl, .ty _, .base (.bl b), kit_ty (b := "bool") (r := true) (by decide +kernel), _, rfl, _, _, _, _, _, rfl, .ty _, .base (.bl b), kit_ty (b := "bool") (r := true) (by decide +kernel), rfl, _, rfl, ifD_yes rfl ?_⟩
      refine ⟨_, rfl, _, rfl, rfl, ?_⟩
      show Q (V.bl (decide (V.bl b = V.bl b))) _
      rw [decide_eq_true rfl]
      exact k _ (new_ htp)
    | non _ =>
      refine ⟨_, pss_cons (ps_if (pt_val (pe_callB call_isiT (by rfl) T.isi boot_isi (pa_cons (pv 1) (pa_cons (pe_tup (pa_cons (pe_bltn (v := .ty "list") (by rfl) T.list_ boot_list' rfl) (pa_cons (pe_bltn (v := .ty "tuple") (by rfl) T.tup_ boot_tuple' rfl) pa_nil))) pa_nil)))) pss_never pss_nil)
      (pss_cons (ps_if (pt_val (pe_callB call_isi (by rfl) T.isi boot_isi (pa_cons (pv 1) (pa_cons (pe_bltn (v := .ty "int") (by rfl) T.int_ boot_int' rfl) pa_nil)))) pss_never pss_nil)
      (pss_one (ps_ret (pe_and (pe_cmpR op_eq (pv 0) (pv 1) (nomark _)) (pe_one (pe_cmpR op_is_bl (pe_callB call_isiT (by rfl) T.isi boot_isi (pa_cons (pv 0) (pa_cons (pe_tup (pa_cons (pe_bltn (v := .ty "int") (by rfl) T.int_ boot_int' rfl) (pa_cons (pe_bltn (v := .ty "list") (by rfl) T.list_ boot_list' rfl) (pa_cons (pe_bltn (v := .ty "tuple") (by rfl) T.tup_ boot_tuple' rfl) pa_nil)))) pa_nil))) pe_bl (nomark _))))))), ?_⟩
      refine ⟨_, rfl, by show 2 ≤ sizeLine; decide, fun tp htp => ⟨_, tp, _, _, [.type "list", .type "tuple"], _, rfl, upd_same, .cons (.ty _) (.cons (.ty _) .nil), .base .non, kit2 (b1 := false) (b2 := false) (by decide +kernel) (by decide +kernel) rfl, _, rfl, iteF ?_⟩⟩
      refine ⟨_, rfl, _, _, _, _, _, rfl, .ty _, .base .non, kit_ty (b := "int") (r := false) (by decide +kernel), _, rfl, iteF ?_⟩
      refine ⟨_, rfl, _, rfl, rfl, _, rfl, ifD_yes rfl ?_⟩
      refine ⟨_, rfl, by show 3 ≤ sizeLine; decide, fun tq htq => ⟨_, tq, _, _, [.type "int", .type "list", .type "tuple"], _, rfl, upd_same, .cons (.ty _) (.cons (.ty _) (.cons (.ty _) .nil)), .base .non, kit3 (by decide +kernel) (by decide +kernel) (by decide +kernel), _, _, rfl, rfl, ?_⟩⟩
      exact k _ ((new_ htp).trans (new_ htq))
    | str _ x =>
      refine ⟨_, pss_cons (ps_if (pt_val (pe_callB call_isiT (by rfl) T.isi boot_isi (pa_cons (pv 1) (pa_cons (pe_tup (pa_cons (pe_bltn (v := .ty "list") (by rfl) T.list_ boot_list' rfl) (pa_cons (pe_bltn (v := .ty "tuple") (by rfl) T.tup_ boot_tuple' rfl) pa_nil))) pa_nil)))) pss_never pss_nil)
      (pss_cons (ps_if (pt_val (pe_callB call_isi (by rfl) T.isi boot_isi (pa_cons (pv 1) (pa_cons (pe_bltn (v := .ty "int") (by rfl) T.int_ boot_int' rfl) pa_nil)))) pss_never pss_nil)
      (pss_one (ps_ret (pe_and (pe_cmpR op_eq (pv 0) (pv 1) (nomark _)) (pe_one (pe_cmpR op_is_bl (pe_callB call_isiT (by rfl) T.isi boot_isi (pa_cons (pv 0) (pa_cons (pe_tup (pa_cons (pe_bltn (v := .ty "int") (by rfl) T.int_ boot_int' rfl) (pa_cons (pe_bltn (v := .ty "list") (by rfl) T.list_ boot_list' rfl) (pa_cons (pe_bltn (v := .ty "tuple") (by rfl) T.tup_ boot_tuple' rfl) pa_nil)))) pa_nil))) pe_bl (nomark _))))))), ?_⟩
      refine ⟨_, rfl, by show 2 ≤ sizeLine; decide, fun tp htp => ⟨_, tp, _, _, [.type "list", .type "tuple"], _, rfl, upd_same, .cons (.ty _) (.cons (.ty _) .nil), .base (.str x), kit2 (b1 := false) (b2 := false) (by decide +kernel) (by decide +kernel) rfl, _, rfl, iteF ?_⟩⟩
      refine ⟨_, rfl, _, _, _, _, _, rfl, .ty _, .base (.str x), kit_ty (b := "int") (r := false) (by decide +kernel), _, rfl, iteF ?_⟩
      refine ⟨_, rfl, _, rfl, rfl, _, rfl, ifD_yes rfl ?_⟩
      refine ⟨_, rfl, by show 3 ≤ sizeLine; decide, fun tq htq => ⟨_, tq, _, _, [.type "int", .type "list", .type "tuple"], _, rfl, upd_same, .cons (.ty _) (.cons (.ty _) (.cons (.ty _) .nil)), .base (.str x), kit3 (by decide +kernel) (by decide +kernel) (by decide +kernel), _, _, rfl, rfl, ?_⟩⟩
      exact k _ ((new_ htp).trans (new_ htq))
    | @lst _ a b xs ys ha hb hl hsz hi =>
      refine ⟨_, pss_cons (ps_if (pt_val (pe_callB call_isiT (by rfl) T.isi boot_isi (pa_cons (pv 1) (pa_cons (pe_tup (pa_cons (pe_bltn (v := .ty "list") (by rfl) T.list_ boot_list' rfl) (pa_cons (pe_bltn (v := .ty "tuple") (by rfl) T.tup_ boot_tuple' rfl) pa_nil))) pa_nil))))
      (pss_cons (ps_if (PW.pt (pw_or (pt_cmpR op_ne (pe_callB call_isi (by rfl) T.isi boot_isi (pa_cons (pv 0) (pa_cons (pe_bltn (v := .ty "list") (by rfl) T.list_ boot_list' rfl) pa_nil))) (pe_callB call_isi (by rfl) T.isi boot_isi (pa_cons (pv 1) (pa_cons (pe_bltn (v := .ty "list") (by rfl) T.list_ boot_list' rfl) pa_nil))) (nomark _)) (pw_or1 (pt_cmpR op_ne (pe_callB call_isi (by rfl) T.isi boot_isi (pa_cons (pv 0) (pa_cons (pe_bltn (v := .ty "tuple") (by rfl) T.tup_ boot_tuple' rfl) pa_nil))) (pe_callB call_isi (by rfl) T.isi boot_isi (pa_cons (pv 1) (pa_cons (pe_bltn (v := .ty "tuple") (by rfl) T.tup_ boot_tuple' rfl) pa_nil))) (nomark _))))) pss_never pss_nil)
        (pss_one (ps_ret (pe_and (pe_cmpR op_eq (pe_callB call_len_seq (by rfl) T.len_ PySem.boot_len (pa_cons (pv 0) pa_nil)) (pe_callB call_len_seq (by rfl) T.len_ PySem.boot_len (pa_cons (pv 1) pa_nil)) (nomark _))
          (pe_one (pe_callB (cr_all rfl) (by rfl) T.all_ boot_all' (pa_cons (pe_lc (own := [("_law_one", 2), ("_law_other", 3)]) (g := gTup K 2 (gCons (gName 2) (gCons (gName 3) gNil))) (tt := tYes) (by rfl) scSame.nd (pi_zipA (by rfl) T.zip_ (pa_cons (pv 0) (pa_cons (pv 1) pa_nil))) (blkOk_by (N := ["_law_found", "_law_due", "_law_one", "_law_other"]) (sc := defScope sSame) (by decide +kernel))
            (fun _ _ _ _ _ => by exact pg_tup rfl (pgs_cons (pg_name (i := 2) scSame.nd rfl (Or.inl rfl)) (pgs_cons (pg_name (i := 3) scSame.nd rfl (Or.inl rfl)) pgs_nil))) (fun _ _ _ _ _ => pts_nil)
            (fun _ _ _ _ _ => pe_call ih hr rfl D.M D.F.kp D.B .nil pass0 (pa_cons (pv 2) (pa_cons (pv 3) pa_nil)))) pa_nil))))))) pss_nil) pss_never, ?_⟩
      refine ⟨_, rfl, by show 2 ≤ sizeLine; decide, fun tp htp => ?_⟩
      have s1 : Same H (upd H tp (.tup [.ty "list", .ty "tuple"])) := new_ htp
      have hA := s1 _ _ ha
      have hB := s1 _ _ hb
      refine ⟨_, tp, _, _, [.type "list", .type "tuple"], _, rfl, upd_same, .cons (.ty _) (.cons (.ty _) .nil), .base (.lst hB), kit2 (b1 := true) (b2 := false) (by decide +kernel) (by decide +kernel) rfl, _, rfl, iteT ?_⟩
      refine ⟨_, rfl, _, _, _, _, _, rfl, .ty _, .base (.lst hA), kit_ty (b := "list") (r := true) (by decide +kernel), _, rfl, _, _, _, _, _, rfl, .ty _, .base (.lst hB), kit_ty (b := "list") (r := true) (by decide +kernel), rfl, _, rfl, iteNS rfl ?_⟩
      refine ⟨_, rfl, _, _, _, _, _, rfl, .ty _, .base (.lst hA), kit_ty (b := "tuple") (r := false) (by decide +kernel), _, rfl, _, _, _, _, _, rfl, .ty _, .base (.lst hB), kit_ty (b := "tuple") (r := false) (by decide +kernel), rfl, _, rfl, iteNS rfl ?_⟩
      refine ⟨_, rfl, _, _, rfl, .inl (SqL.of hA), _, rfl, _, _, rfl, .inl (SqL.of hB), rfl, _, rfl, ifD_yes (by rw [hl]) ?_⟩
      refine ⟨_, rfl, _, rfl, _, _, xs, ys, rfl, .inl ⟨SqL.of hA, SqL.of hB, fun Dd hD => ?_⟩⟩
      refine lc_zipL hl (fun i H' => Same (upd H tp (.tup [.ty "list", .ty "tuple"])) H' ∧ H' Dd = some (.lst ((List.replicate i true).map V.bl))) ⟨new_ hD, upd_same⟩ (fun i H' q => ⟨SqL.of (q.1 _ _ hA), SqL.of (q.1 _ _ hB)⟩) ?_ ?_
      · rintro i x y tt H' hx hy ⟨sm, hd⟩ ht
        refine ⟨tt, _, rfl, SqT.of upd_same, rfl, _, _, rfl, _, _, rfl, rfl, rfl, ?_⟩
        dsimp only [tYes]
        rw [if_pos rfl]
        have s2 : Same H' (upd H' tt (.tup [x, y])) := new_ ht
        refine ⟨_, rfl, _, rfl, x, y, rfl, ((hi i x y hx hy).same s1).same (sm.trans s2), fun H2 s3 => ⟨_, s3 _ _ (s2 _ _ hd), ?_, ?_, ?_⟩⟩
        · rw [List.length_map, List.length_replicate]
          exact Nat.lt_of_lt_of_le (List.getElem?_eq_some_iff.mp hx).1 hsz
        · intro c o e
          rw [upd_ne (ne_of_none e hD)]
          exact s3 _ _ (s2 _ _ (sm _ _ e))
        · rw [upd_same, List.replicate_succ', List.map_append]
          rfl
      · rintro H' ⟨sm, hd⟩
        refine ⟨Dd, _, rfl, SqL.of hd, ?_⟩
        have ea : (List.replicate xs.length true).all id = true := by
          rw [List.all_eq_true]
          intro x hx
          rw [(List.mem_replicate.mp hx).2]
          rfl
        rw [ea]
        exact k _ (s1.trans sm)
    | @tup _ a b xs ys ha hb hl hsz hi =>
      refine ⟨_, pss_cons (ps_if (pt_val (pe_callB call_isiT (by rfl) T.isi boot_isi (pa_cons (pv 1) (pa_cons (pe_tup (pa_cons (pe_bltn (v := .ty "list") (by rfl) T.list_ boot_list' rfl) (pa_cons (pe_bltn (v := .ty "tuple") (by rfl) T.tup_ boot_tuple' rfl) pa_nil))) pa_nil))))
      (pss_cons (ps_if (PW.pt (pw_or (pt_cmpR op_ne (pe_callB call_isi (by rfl) T.isi boot_isi (pa_cons (pv 0) (pa_cons (pe_bltn (v := .ty "list") (by rfl) T.list_ boot_list' rfl) pa_nil))) (pe_callB call_isi (by rfl) T.isi boot_isi (pa_cons (pv 1) (pa_cons (pe_bltn (v := .ty "list") (by rfl) T.list_ boot_list' rfl) pa_nil))) (nomark _)) (pw_or1 (pt_cmpR op_ne (pe_callB call_isi (by rfl) T.isi boot_isi (pa_cons (pv 0) (pa_cons (pe_bltn (v := .ty "tuple") (by rfl) T.tup_ boot_tuple' rfl) pa_nil))) (pe_callB call_isi (by rfl) T.isi boot_isi (pa_cons (pv 1) (pa_cons (pe_bltn (v := .ty "tuple") (by rfl) T.tup_ boot_tuple' rfl) pa_nil))) (nomark _))))) pss_never pss_nil)
        (pss_one (ps_ret (pe_and (pe_cmpR op_eq (pe_callB call_len_seq (by rfl) T.len_ PySem.boot_len (pa_cons (pv 0) pa_nil)) (pe_callB call_len_seq (by rfl) T.len_ PySem.boot_len (pa_cons (pv 1) pa_nil)) (nomark _))
          (pe_one (pe_callB (cr_all rfl) (by rfl) T.all_ boot_all' (pa_cons (pe_lc (own := [("_law_one", 2), ("_law_other", 3)]) (g := gTup K 2 (gCons (gName 2) (gCons (gName 3) gNil))) (tt := tYes) (by rfl) scSame.nd (pi_zipA (by rfl) T.zip_ (pa_cons (pv 0) (pa_cons (pv 1) pa_nil))) (blkOk_by (N := ["_law_found", "_law_due", "_law_one", "_law_other"]) (sc := defScope sSame) (by decide +kernel))
            (fun _ _ _ _ _ => by exact pg_tup rfl (pgs_cons (pg_name (i := 2) scSame.nd rfl (Or.inl rfl)) (pgs_cons (pg_name (i := 3) scSame.nd rfl (Or.inl rfl)) pgs_nil))) (fun _ _ _ _ _ => pts_nil)
            (fun _ _ _ _ _ => pe_call ih hr rfl D.M D.F.kp D.B .nil pass0 (pa_cons (pv 2) (pa_cons (pv 3) pa_nil)))) pa_nil))))))) pss_nil) pss_never, ?_⟩
      refine ⟨_, rfl, by show 2 ≤ sizeLine; decide, fun tp htp => ?_⟩
      have s1 : Same H (upd H tp (.tup [.ty "list", .ty "tuple"])) := new_ htp
      have hA := SqT.up ha s1
      have hB := SqT.up hb s1
      refine ⟨_, tp, _, _, [.type "list", .type "tuple"], _, rfl, upd_same, .cons (.ty _) (.cons (.ty _) .nil), tyT hB, kit2 (b1 := false) (b2 := true) (by decide +kernel) (by decide +kernel) rfl, _, rfl, iteT ?_⟩
      refine ⟨_, rfl, _, _, _, _, _, rfl, .ty _, tyT hA, kit_ty (b := "list") (r := false) (by decide +kernel), _, rfl, _, _, _, _, _, rfl, .ty _, tyT hB, kit_ty (b := "list") (r := false) (by decide +kernel), rfl, _, rfl, iteNS rfl ?_⟩
      refine ⟨_, rfl, _, _, _, _, _, rfl, .ty _, tyT hA, kit_ty (b := "tuple") (r := true) (by decide +kernel), _, rfl, _, _, _, _, _, rfl, .ty _, tyT hB, kit_ty (b := "tuple") (r := true) (by decide +kernel), rfl, _, rfl, iteNS rfl ?_⟩
      refine ⟨_, rfl, _, _, rfl, .inr (hA), _, rfl, _, _, rfl, .inr (hB), rfl, _, rfl, ifD_yes (by rw [hl]) ?_⟩
      refine ⟨_, rfl, _, rfl, _, _, xs, ys, rfl, .inr ⟨hA, hB, fun Dd hD => ?_⟩⟩
      refine lc_zipT hl (fun i H' => Same (upd H tp (.tup [.ty "list", .ty "tuple"])) H' ∧ H' Dd = some (.lst ((List.replicate i true).map V.bl))) ⟨new_ hD, upd_same⟩ (fun i H' q => ⟨SqT.up hA q.1, SqT.up hB q.1⟩) ?_ ?_
      · rintro i x y tt H' hx hy ⟨sm, hd⟩ ht
        refine ⟨tt, _, rfl, SqT.of upd_same, rfl, _, _, rfl, _, _, rfl, rfl, rfl, ?_⟩
        dsimp only [tYes]
        rw [if_pos rfl]
        have s2 : Same H' (upd H' tt (.tup [x, y])) := new_ ht
        refine ⟨_, rfl, _, rfl, x, y, rfl, ((hi i x y hx hy).same s1).same (sm.trans s2), fun H2 s3 => ⟨_, s3 _ _ (s2 _ _ hd), ?_, ?_, ?_⟩⟩
        · rw [List.length_map, List.length_replicate]
          exact Nat.lt_of_lt_of_le (List.getElem?_eq_some_iff.mp hx).1 hsz
        · intro c o e
          rw [upd_ne (ne_of_none e hD)]
          exact s3 _ _ (s2 _ _ (sm _ _ e))
        · rw [upd_same, List.replicate_succ', List.map_append]
          rfl
      · rintro H' ⟨sm, hd⟩
        refine ⟨Dd, _, rfl, SqL.of hd, ?_⟩
        have ea : (List.replicate xs.length true).all id = true := by
          rw [List.all_eq_true]
          intro x hx
          rw [(List.mem_replicate.mp hx).2]
          rfl
        rw [ea]
        exact k _ (s1.trans sm)
end
end PA

set_option maxHeartbeats 4000000
namespace PA
open PySem L2 RZ
open C8 (pss_cut tCut)
abbrev tx (ss : List Str) : List V := ss.map V.str
theorem tx_flat (ss : List Str) : (tx ss).all flatV = true := by
  rw [List.all_eq_true]
  intro x hx
  obtain ⟨z, _, rfl⟩ := List.mem_map.mp hx
  rfl
theorem eqV_str (a b : Str) : eqV (.str a) (.str b) = decide (a = b) := by
  show (a == b) = decide (a = b)
  rw [Bool.eq_iff_iff]
  simp
theorem inV_tx (s : Str) (ss : List Str) : inV (.str s) (tx ss) = decide (s ∈ ss) := by
  unfold inV
  rw [Bool.eq_iff_iff, List.any_eq_true]
  simp only [decide_eq_true_eq]
  constructor
  · rintro ⟨x, hx, e⟩
    obtain ⟨z, hz, rfl⟩ := List.mem_map.mp hx
    rw [eqV_str, decide_eq_true_eq] at e
    rw [← e]
    exact hz
  · intro h
    exact ⟨.str s, List.mem_map.mpr ⟨s, h, rfl⟩, by rw [eqV_str, decide_eq_true_eq]⟩
def fR (N : Addr) (c : Int) : List (Str × V) := putF "cost" (.int c) (putF "names" (.ref N) [])
theorem nc_ : ¬ (("names" : Str) = "cost") := by decide +kernel
theorem fR_names (N : Addr) (c : Int) : (fR N c).lookup ("names" : Str) = some (.ref N) := by
  unfold fR
  rw [lookup_putF, if_neg nc_, lookup_putF, if_pos rfl]
theorem fR_cost (N : Addr) (c : Int) : (fR N c).lookup ("cost" : Str) = some (.int c) := by
  unfold fR
  rw [lookup_putF, if_pos rfl]
structure TxR (K : PySem.W.Frag) (C : Addr) : Prop where
  cl : Cls K C
  nN : NoAttr K C "names"
  nC : NoAttr K C "cost"
/-- a rival: the list of its names, its cost -/
def RivAt (C : Addr) (H : Hp) (p dx N : Addr) (ss : List Str) (c : Int) : Prop := H p = some (.ins C dx (fR N c)) ∧ H N = some (.lst (tx ss)) ∧ ss.Nodup ∧ ss.length ≤ 60
def spInitR (K : PySem.W.Frag) (C : Addr) : Sp := fun vs H Q _ => ∃ (p dx G : Addr) (ss : List Str), vs = [.ref p, .ref G] ∧ H p = some (.ins C dx []) ∧ Sq K H G (tx ss) ∧ ss.Nodup ∧ ss.length ≤ 60 ∧
  ∀ N H', RivAt C H' p dx N ss 0 → (∀ c o, H c = some o → c ≠ p → H' c = some o) → H N = none → Q .non H'
def spOrder (C : Addr) : Sp := fun vs H Q _ => ∃ (p dx N : Addr) (ss : List Str) (c : Int), vs = [.ref p] ∧ RivAt C H p dx N ss c ∧ ∀ q, H q = none → Q (.ref q) (upd H q (.lst (tx ss)))
def spHas (C : Addr) : Sp := fun vs H Q _ => ∃ (p dx N : Addr) (ss : List Str) (c : Int) (s : Str), vs = [.ref p, .str s] ∧ RivAt C H p dx N ss c ∧ Q (.bl (decide (s ∈ ss))) H
def spLen (C : Addr) : Sp := fun vs H Q _ => ∃ (p dx N : Addr) (ss : List Str) (c : Int), vs = [.ref p] ∧ RivAt C H p dx N ss c ∧ Q (.int (ss.length : Nat)) H
def spPlace (C : Addr) : Sp := fun vs H Q _ => ∃ (p dx N : Addr) (ss : List Str) (c : Int) (s : Str) (j : Nat), vs = [.ref p, .str s] ∧ RivAt C H p dx N ss c ∧ ss[j]? = some s ∧ Q (.int (j : Nat)) H
def spDrop (C : Addr) : Sp := fun vs H Q _ => ∃ (p dx N : Addr) (ss : List Str) (c : Int) (s : Str) (j : Nat), vs = [.ref p, .str s] ∧ RivAt C H p dx N ss c ∧ ss[j]? = some s ∧ Q .non (upd H N (.lst (tx (ss.eraseIdx j))))
def spPut (C : Addr) : Sp := fun vs H Q _ => ∃ (p dx N : Addr) (ss : List Str) (c : Int) (s : Str) (j : Nat), vs = [.ref p, .str s, .int (j : Nat)] ∧ RivAt C H p dx N ss c ∧ s ∉ ss ∧ j ≤ ss.length ∧ Q .non (upd H N (.lst (tx (ss.take j ++ [s] ++ ss.drop j))))
def spExch (C : Addr) : Sp := fun vs H Q _ => ∃ (p dx N : Addr) (ss : List Str) (c : Int) (j : Nat) (s t : Str), vs = [.ref p, .int (j : Nat)] ∧ RivAt C H p dx N ss c ∧ ss[j]? = some s ∧ ss[j + 1]? = some t ∧ ∀ H0, Same H H0 → Q .non (upd (upd H0 N (.lst (tx ((ss.set j t).set (j + 1) s)))) p (.ins C dx (fR N (c + 1))))
def spCallR (C : Addr) : Sp := fun vs H Q _ => ∃ (p dx N : Addr) (ss : List Str) (c : Int) (s : Str) (j : Nat) (to : V), vs = [.ref p, .str s, to] ∧ RivAt C H p dx N ss c ∧ ss[j]? = some s ∧
  ((to = .non ∧ Q .non (upd H p (.ins C dx (fR N (c + j))))) ∨ ∃ t : Nat, to = .int (t : Nat) ∧ t ≤ j ∧ Q .non (upd (upd H N (.lst (tx ((ss.eraseIdx j).take t ++ [s] ++ (ss.eraseIdx j).drop t)))) p (.ins C dx (fR N (c + j)))))
section
variable {P : Program} {w : World} {K : PySem.W.Frag} {mg : Str → Option Value} {base : Heap} {C : Addr}
theorem scOrder : FnScope ["self"] ["self"] (defScope sOrder) := ⟨rfl, rfl, rfl, by decide +kernel, rfl, by decide +kernel, by decide +kernel⟩
theorem ok_order {f : Addr} {fd : FuncData} (F : Fun K "order" "Rival.order" sOrder f fd) (T : Txt K mg) (R : TxR K C) : FnOk P w K mg base CX0 1 f fd ["self"] (spOrder C) := by
  refine F.ok scOrder (fun vs H Q E h => ?_) (fun cdv A outer s H vs Q E hr h => ?_)
  · obtain ⟨p, _, _, _, _, rfl, _⟩ := h
    rfl
  · obtain ⟨p, dx, N, ss, c, rfl, ⟨hp, hN, nd, l20⟩, kk⟩ := h
    refine ⟨_, pss_one (ps_ret (pe_callTy call_list_of (by rfl) T.list_ boot_list' (pa_cons (pe_fld (pv 0) rfl) pa_nil))), ?_⟩
    exact ⟨_, rfl, p, C, dx, _, _, rfl, hp, R.cl, R.nN, fR_names _ _, N, _, rfl, .inl (SqL.of hN), kk⟩
theorem scHas : FnScope ["self", "name"] ["self", "name"] (defScope sHas) := ⟨rfl, rfl, rfl, by decide +kernel, rfl, by decide +kernel, by decide +kernel⟩
theorem ok_has {f : Addr} {fd : FuncData} (F : Fun K "__contains__" "Rival.__contains__" sHas f fd) (T : Txt K mg) (R : TxR K C) : FnOk P w K mg base CX0 1 f fd ["self", "name"] (spHas C) := by
  refine F.ok scHas (fun vs H Q E h => ?_) (fun cdv A outer s H vs Q E hr h => ?_)
  · obtain ⟨p, _, _, _, _, _, rfl, _⟩ := h
    rfl
  · obtain ⟨p, dx, N, ss, c, s, rfl, ⟨hp, hN, nd, l20⟩, kk⟩ := h
    refine ⟨_, pss_one (ps_ret (pe_cmpR op_in_seq (pv 1) (pe_fld (pv 0) rfl) rfl)), ?_⟩
    refine ⟨_, rfl, _, rfl, p, C, dx, _, _, rfl, hp, R.cl, R.nN, fR_names _ _, N, _, rfl, .inl (SqL.of hN), rfl, tx_flat _, ?_⟩
    show Q (.bl (inV (.str s) (tx ss))) H
    rw [inV_tx]
    exact kk
theorem scLen : FnScope ["self"] ["self"] (defScope sLen) := ⟨rfl, rfl, rfl, by decide +kernel, rfl, by decide +kernel, by decide +kernel⟩
theorem ok_len {f : Addr} {fd : FuncData} (F : Fun K "__len__" "Rival.__len__" sLen f fd) (T : Txt K mg) (R : TxR K C) : FnOk P w K mg base CX0 1 f fd ["self"] (spLen C) := by
  refine F.ok scLen (fun vs H Q E h => ?_) (fun cdv A outer s H vs Q E hr h => ?_)
  · obtain ⟨p, _, _, _, _, rfl, _⟩ := h
    rfl
  · obtain ⟨p, dx, N, ss, c, rfl, ⟨hp, hN, nd, l20⟩, kk⟩ := h
    refine ⟨_, pss_one (ps_ret (pe_callB call_len_seq (by rfl) T.len_ PySem.boot_len (pa_cons (pe_fld (pv 0) rfl) pa_nil))), ?_⟩
    refine ⟨_, rfl, p, C, dx, _, _, rfl, hp, R.cl, R.nN, fR_names _ _, N, _, rfl, .inl (SqL.of hN), ?_⟩
    rw [List.length_map]
    exact kk
theorem scPlace : FnScope ["self", "name"] ["self", "name"] (defScope sPlace) := ⟨rfl, rfl, rfl, by decide +kernel, rfl, by decide +kernel, by decide +kernel⟩
theorem idx_ok {ss : List Str} {s : Str} {j : Nat} (nd : ss.Nodup) (h : ss[j]? = some s) : (tx ss)[j]? = some (.str s) ∧ eqV (.str s) (.str s) = true ∧ ∀ (m : Nat) (z' : V), m < j → (tx ss)[m]? = some z' → eqV z' (.str s) = false := by
  refine ⟨by rw [List.getElem?_map, h]; rfl, by rw [eqV_str, decide_eq_true rfl], fun m z' hm hz => ?_⟩
  rw [List.getElem?_map, Option.map_eq_some_iff] at hz
  obtain ⟨z, hz, rfl⟩ := hz
  rw [eqV_str, decide_eq_false_iff_not]
  rintro rfl
  have h1 := (List.getElem?_eq_some_iff.mp hz)
  have h2 := (List.getElem?_eq_some_iff.mp h)
  obtain ⟨l1, e1⟩ := h1
  obtain ⟨l2, e2⟩ := h2
  exact List.pairwise_iff_getElem.mp nd m j l1 l2 hm (by rw [e1, e2])
theorem ok_place {f : Addr} {fd : FuncData} (F : Fun K "_place" "Rival._place" sPlace f fd) (T : Txt K mg) (R : TxR K C) : FnOk P w K mg base CX0 1 f fd ["self", "name"] (spPlace C) := by
  refine F.ok scPlace (fun vs H Q E h => ?_) (fun cdv A outer s H vs Q E hr h => ?_)
  · obtain ⟨p, _, _, _, _, _, _, rfl, _⟩ := h
    rfl
  · obtain ⟨p, dx, N, ss, c, s, j, rfl, ⟨hp, hN, nd, l20⟩, hj, kk⟩ := h
    refine ⟨_, pss_cons (ps_if (pt_cmpR op_notIn_seq (pv 1) (pe_fld (pv 0) rfl) rfl) pss_never pss_nil)
      (pss_one (ps_ret (pe_bm PySem.F.plainAttrs_list PySem.F.slot_list_index PySem.F.type_list_index mt_index (pe_fld (pv 0) rfl) (pa_cons (pv 1) pa_nil)))), ?_⟩
    refine ⟨_, rfl, _, rfl, p, C, dx, _, _, rfl, hp, R.cl, R.nN, fR_names _ _, N, _, rfl, .inl (SqL.of hN), rfl, tx_flat _, _, rfl, ?_⟩
    show ite ((!inV (.str s) (tx ss)) = true) _ _
    rw [inV_tx, decide_eq_true (List.mem_of_getElem? hj)]
    refine iteF ?_
    obtain ⟨i1, i2, i3⟩ := idx_ok nd hj
    exact ⟨_, rfl, p, C, dx, _, _, rfl, hp, R.cl, R.nN, fR_names _ _, .inl ⟨rfl, _, SqL.of hN⟩, _, rfl, N, _, _, j, _, rfl, rfl, SqL.of hN, rfl, tx_flat _, i1, i2, i3, kk⟩
theorem tx_erase (ss : List Str) (j : Nat) : (tx ss).eraseIdx j = tx (ss.eraseIdx j) := by
  rw [List.eraseIdx_eq_take_drop_succ, List.eraseIdx_eq_take_drop_succ]
  simp [tx, List.map_take, List.map_drop]
theorem scDrop : FnScope ["self", "name"] ["self", "name"] (defScope sDrop) := ⟨rfl, rfl, rfl, by decide +kernel, rfl, by decide +kernel, by decide +kernel⟩
theorem seqIdx_nat {j n : Nat} (h : j < n) : seqIndex? ((j : Nat) : Int) n = some j := by
  unfold seqIndex?
  have e : ¬ (j : Int) < 0 := by omega
  have e2 : (j : Int) < (n : Int) := by omega
  simp [e, e2, h]
theorem ok_drop {f g : Addr} {fd gd : FuncData} (F : Fun K "drop" "Rival.drop" sDrop f fd) (T : Txt K mg) (R : TxR K C) (F1 : Fun K "_place" "Rival._place" sPlace g gd) (b1 : Binds K gd ["self", "name"] []) (m1 : Meth K C "_place" g) : FnOk P w K mg base CX0 2 f fd ["self", "name"] (spDrop C) := by
  have G : FnOk P w K mg base CX0 1 g gd ["self", "name"] (spPlace C) := ok_place F1 T R
  refine F.ok scDrop (fun vs H Q E h => ?_) (fun cdv A outer s H vs Q E hr h => ?_)
  · obtain ⟨p, _, _, _, _, _, _, rfl, _⟩ := h
    rfl
  · obtain ⟨p, dx, N, ss, c, s, j, rfl, hv, hj, kk⟩ := h
    obtain ⟨hp, hN, nd, l20⟩ := id hv
    have hjl := (List.getElem?_eq_some_iff.mp hj).1
    refine ⟨_, pss_one (ps_expr (pe_bm PySem.F.plainAttrs_list PySem.F.slot_list_pop PySem.F.type_list_pop mt_popAt (pe_fld (pv 0) rfl) (pa_cons (pe_meth (E := E0) (pv 0) R.cl m1 G hr b1 .nil pass0 (pa_cons (pv 1) pa_nil)) pa_nil))), ?_⟩
    refine ⟨_, rfl, p, C, dx, _, _, rfl, hp, R.cl, R.nN, fR_names _ _, .inl ⟨rfl, _, SqL.of hN⟩, _, rfl, p, dx, _, rfl, hp, by unfold fR; rw [lookup_putF, if_neg (by decide +kernel), lookup_putF, if_neg (by decide +kernel)]; rfl, _, rfl, p, dx, N, ss, c, s, j, rfl, hv, hj, ?_⟩
    refine ⟨N, tx ss, (j : Nat), j, .str s, rfl, rfl, hN, by omega, by omega, ?_, by rw [List.getElem?_map, hj]; rfl, ?_⟩
    · rw [List.length_map]
      exact seqIdx_nat hjl
    · have e : (tx ss).eraseIdx j = tx (ss.eraseIdx j) := tx_erase ss j
      rw [e]
      exact kk
theorem scPut : FnScope ["self", "name", "at"] ["self", "name", "at"] (defScope sPut) := ⟨rfl, rfl, rfl, by decide +kernel, rfl, by decide +kernel, by decide +kernel⟩
theorem ok_put {f : Addr} {fd : FuncData} (F : Fun K "put" "Rival.put" sPut f fd) (T : Txt K mg) (R : TxR K C) : FnOk P w K mg base CX0 1 f fd ["self", "name", "at"] (spPut C) := by
  refine F.ok scPut (fun vs H Q E h => ?_) (fun cdv A outer s H vs Q E hr h => ?_)
  · obtain ⟨p, _, _, _, _, _, _, rfl, _⟩ := h
    rfl
  · obtain ⟨p, dx, N, ss, c, s, j, rfl, ⟨hp, hN, nd, l20⟩, hs, hj, kk⟩ := h
    refine ⟨_, pss_cons (ps_if (pt_cmpR op_in_seq (pv 1) (pe_fld (pv 0) rfl) rfl) pss_never pss_nil)
      (pss_cons (ps_if (pt_not (pt_chain op_le op_le pe_int (pv 2) (pe_callB call_len_seq (by rfl) T.len_ PySem.boot_len (pa_cons (pe_fld (pv 0) rfl) pa_nil)))) pss_never pss_nil)
      (pss_one (ps_expr (pe_bm PySem.F.plainAttrs_list PySem.F.slot_list_insert PySem.F.type_list_insert mt_insert (pe_fld (pv 0) rfl) (pa_cons (pv 2) (pa_cons (pv 1) pa_nil)))))), ?_⟩
    refine ⟨_, rfl, _, rfl, p, C, dx, _, _, rfl, hp, R.cl, R.nN, fR_names _ _, N, _, rfl, .inl (SqL.of hN), rfl, tx_flat _, _, rfl, ?_⟩
    show ite ((inV (.str s) (tx ss)) = true) _ _
    rw [inV_tx, decide_eq_false hs]
    refine iteF ?_
    refine ⟨_, rfl, _, _, rfl, rfl, _, rfl, ifD_yes (by omega) ⟨_, rfl, p, C, dx, _, _, rfl, hp, R.cl, R.nN, fR_names _ _, N, _, rfl, .inl (SqL.of hN), ?_⟩⟩
    rw [List.length_map]
    refine ⟨_, _, rfl, rfl, _, rfl, ?_⟩
    rw [decide_eq_true (by omega : ((j : Nat) : Int) ≤ ((ss.length : Nat) : Int))]
    refine iteF ?_
    refine ⟨_, rfl, p, C, dx, _, _, rfl, hp, R.cl, R.nN, fR_names _ _, .inl ⟨rfl, _, SqL.of hN⟩, _, rfl, _, rfl, N, tx ss, (j : Nat), .str s, rfl, rfl, hN, ?_, by omega, by omega, ?_⟩
    · rw [List.length_map]
      exact Nat.lt_of_le_of_lt l20 (by decide)
    · have e : (tx ss).take ((j : Nat) : Int).toNat ++ [V.str s] ++ (tx ss).drop ((j : Nat) : Int).toNat = tx (ss.take j ++ [s] ++ ss.drop j) := by
        rw [Int.toNat_natCast]
        simp [tx]
      rw [e]
      exact kk
theorem putF_fR (N : Addr) (c d : Int) : putF "cost" (.int d) (fR N c) = fR N d := by
  rfl
theorem fR_no (N : Addr) (c : Int) {m : Str} (h1 : ¬ m = "cost") (h2 : ¬ m = "names") : (fR N c).lookup m = none := by
  unfold fR
  rw [lookup_putF, if_neg h1, lookup_putF, if_neg h2]
  rfl
theorem scExch : FnScope ["self", "at"] ["self", "at"] (defScope sExch) := ⟨rfl, rfl, rfl, by decide +kernel, rfl, by decide +kernel, by decide +kernel⟩
theorem ok_exch {f : Addr} {fd : FuncData} (F : Fun K "exchange" "Rival.exchange" sExch f fd) (T : Txt K mg) (R : TxR K C) : FnOk P w K mg base CX0 1 f fd ["self", "at"] (spExch C) := by
  refine F.ok scExch (fun vs H Q E h => ?_) (fun cdv A outer s H vs Q E hr h => ?_)
  · obtain ⟨p, _, _, _, _, _, _, _, rfl, _⟩ := h
    rfl
  · obtain ⟨p, dx, N, ss, c, j, s, t, rfl, ⟨hp, hN, nd, l20⟩, hs, ht, kk⟩ := h
    have jl := (List.getElem?_eq_some_iff.mp ht).1
    have pN : p ≠ N := ne_of hp hN (by intro z; cases z)
    refine ⟨_, pss_cons (ps_if (pt_not (pt_chain op_le op_lt pe_int (pv 1) (pe_op op_sub (pe_callB call_len_seq (by rfl) T.len_ PySem.boot_len (pa_cons (pe_fld (pv 0) rfl) pa_nil)) pe_int))) pss_never pss_nil)
      (pss_cons (ps_asg (pe_tup (pa_cons (pe_ix ix_list (pe_fld (pv 0) rfl) (pe_op op_add (pv 1) pe_int) (fun _ _ => rfl)) (pa_cons (pe_ix ix_list (pe_fld (pv 0) rfl) (pv 1) (fun _ _ => rfl)) pa_nil)))
        (pg_tup rfl (pgs_cons (pg_sub (pe_fld (pv 0) rfl) (pv 1) set_list) (pgs_cons (pg_sub (pe_fld (pv 0) rfl) (pe_op op_add (pv 1) pe_int) set_list) pgs_nil))))
      (pss_one (ps_fldaug (pv 0) pe_int in_add))), ?_⟩
    refine ⟨_, rfl, _, _, rfl, rfl, _, rfl, ifD_yes (by omega) ⟨_, rfl, p, C, dx, _, _, rfl, hp, R.cl, R.nN, fR_names _ _, N, _, rfl, .inl (SqL.of hN), ?_⟩⟩
    rw [List.length_map]
    refine ⟨_, _, rfl, rfl, _, _, rfl, rfl, _, rfl, ?_⟩
    rw [decide_eq_true (by omega : ((j : Nat) : Int) < ((ss.length : Nat) : Int) - 1)]
    refine iteF ?_
    have a1 : atI (tx ss) (((j : Nat) : Int) + 1) = some (.str t) := atI_nat (i := j + 1) (by rw [List.getElem?_map, ht]; rfl)
    have a0 : atI (tx ss) ((j : Nat) : Int) = some (.str s) := atI_nat (by rw [List.getElem?_map, hs]; rfl)
    refine ⟨_, rfl, p, C, dx, _, _, rfl, hp, R.cl, R.nN, fR_names _ _, _, rfl, _, _, rfl, rfl, N, _, _, _, rfl, rfl, SqL.of hN, a1, ?_⟩
    refine ⟨_, rfl, p, C, dx, _, _, rfl, hp, R.cl, R.nN, fR_names _ _, _, rfl, N, _, _, _, rfl, rfl, SqL.of hN, a0, ?_⟩
    refine ⟨by show 2 ≤ sizeLine; decide, fun tp htp => ?_⟩
    have etp := new_ (o := .tup [V.str t, .str s]) htp
    have gtp : (upd H tp (.tup [V.str t, .str s])) tp = some (.tup [V.str t, .str s]) := upd_same
    have kk := kk _ etp
    have hN := etp _ _ hN
    have hp := etp _ _ hp
    generalize (upd H tp (.tup [V.str t, .str s])) = H1 at gtp kk hN hp ⊢
    refine ⟨tp, _, rfl, SqT.of gtp, rfl, _, _, rfl, ?_⟩
    refine ⟨_, rfl, p, C, dx, _, _, rfl, hp, R.cl, R.nN, fR_names _ _, _, rfl, N, _, _, j, rfl, rfl, hN, Evl.ixN_nat (by rw [List.length_map]; omega), ?_⟩
    have e1 : (tx ss).set j (.str t) = tx (ss.set j t) := List.map_set.symm
    rw [e1]
    have hN1 : (upd H1 N (.lst (tx (ss.set j t)))) N = some (.lst (tx (ss.set j t))) := upd_same
    have hp1 : (upd H1 N (.lst (tx (ss.set j t)))) p = some (.ins C dx (fR N c)) := by rw [upd_ne pN]; exact hp
    refine ⟨_, _, rfl, ?_⟩
    refine ⟨_, rfl, p, C, dx, _, _, rfl, hp1, R.cl, R.nN, fR_names _ _, _, rfl, _, _, rfl, rfl, N, _, _, j + 1, rfl, rfl, hN1, ?_, ?_⟩
    · have := Evl.ixN_nat (n := (tx (ss.set j t)).length) (j := j + 1) (by rw [List.length_map, List.length_set]; exact jl)
      exact this
    have e2 : (tx (ss.set j t)).set (j + 1) (.str s) = tx ((ss.set j t).set (j + 1) s) := List.map_set.symm
    rw [e2, upd_upd]
    have hp2 : (upd H1 N (.lst (tx ((ss.set j t).set (j + 1) s)))) p = some (.ins C dx (fR N c)) := by rw [upd_ne pN]; exact hp
    exact ⟨rfl, _, rfl, p, C, dx, _, _, rfl, hp2, R.cl, R.nC, fR_cost _ _, _, _, rfl, rfl, dx, fR N c, hp2, (by show 2 < 1000; decide), kk⟩
theorem scCallR : FnScope ["self", "name", "to", "place"] ["self", "name", "to"] (defScope sCall) := ⟨rfl, rfl, rfl, by decide +kernel, rfl, by decide +kernel, by decide +kernel⟩
abbrev FunC (K : PySem.W.Frag) (f : Addr) (fd : FuncData) : Prop := FunD K "call" "Rival.call" (defArgs sCall) (defBody sCall) (defScope sCall) [V.non] [] f fd
theorem ok_callR {f g : Addr} {fd gd : FuncData} (F : FunC K f fd) (T : Txt K mg) (R : TxR K C) (F1 : Fun K "_place" "Rival._place" sPlace g gd) (b1 : Binds K gd ["self", "name"] []) (m1 : Meth K C "_place" g) : FnOk P w K mg base CX0 2 f fd ["self", "name", "to"] (spCallR C) := by
  have G : FnOk P w K mg base CX0 1 g gd ["self", "name"] (spPlace C) := ok_place F1 T R
  refine F.ok scCallR (fun vs H Q E h => ?_) (fun cdv A outer s H vs Q E hr h => ?_)
  · obtain ⟨p, _, _, _, _, _, _, _, rfl, _⟩ := h
    rfl
  · obtain ⟨p, dx, N, ss, c, s, j, to, rfl, hv, hj, hto⟩ := h
    obtain ⟨hp, hN, nd, l20⟩ := id hv
    have jl := (List.getElem?_eq_some_iff.mp hj).1
    have pN : p ≠ N := ne_of hp hN (by intro z; cases z)
    refine ⟨_, pss_cons (ps_set (i := 3) scCallR.nd rfl (Or.inl rfl) (pe_meth (E := E0) (pv 0) R.cl m1 G hr b1 .nil pass0 (pa_cons (pv 1) pa_nil)))
      (pss_cons (ps_if (pt_cmpR op_notN (pv 2) pe_non (nomark _)) (pss_cons (ps_if (pt_not (pt_chain op_le op_le pe_int (pv 2) (pv 3))) pss_never pss_nil)
        (pss_cons (ps_expr (pe_bm PySem.F.plainAttrs_list PySem.F.slot_list_pop PySem.F.type_list_pop mt_popAt (pe_fld (pv 0) rfl) (pa_cons (pv 3) pa_nil)))
        (pss_one (ps_expr (pe_bm PySem.F.plainAttrs_list PySem.F.slot_list_insert PySem.F.type_list_insert mt_insert (pe_fld (pv 0) rfl) (pa_cons (pv 2) (pa_cons (pv 1) pa_nil))))))) pss_nil)
      (pss_one (ps_fldaug (pv 0) (pv 3) in_add))), ?_⟩
    refine ⟨_, rfl, p, dx, _, rfl, hp, fR_no _ _ (by decide +kernel) (by decide +kernel), _, rfl, p, dx, N, ss, c, s, j, rfl, hv, hj, ?_⟩
    rcases hto with ⟨rfl, kk⟩ | ⟨t, rfl, htj, kk⟩
    · refine ⟨_, rfl, rfl, _, rfl, iteF ?_⟩
      exact ⟨_, rfl, p, C, dx, _, _, rfl, hp, R.cl, R.nC, fR_cost _ _, _, rfl, _, _, rfl, rfl, dx, fR N c, hp, (by show 2 < 1000; decide), kk⟩
    · refine ⟨_, rfl, rfl, _, rfl, iteT ?_⟩
      refine ⟨_, rfl, _, _, rfl, rfl, _, rfl, ifD_yes (by omega) ⟨_, rfl, _, _, rfl, rfl, _, rfl, ?_⟩⟩
      rw [decide_eq_true (by omega : ((t : Nat) : Int) ≤ ((j : Nat) : Int))]
      refine iteF ?_
      refine ⟨_, rfl, p, C, dx, _, _, rfl, hp, R.cl, R.nN, fR_names _ _, .inl ⟨rfl, _, SqL.of hN⟩, _, rfl, N, tx ss, (j : Nat), j, .str s, rfl, rfl, hN, by omega, by omega, by rw [List.length_map]; exact seqIdx_nat jl, by rw [List.getElem?_map, hj]; rfl, ?_⟩
      rw [tx_erase]
      have hN1 : (upd H N (.lst (tx (ss.eraseIdx j)))) N = some (.lst (tx (ss.eraseIdx j))) := upd_same
      have hp1 : (upd H N (.lst (tx (ss.eraseIdx j)))) p = some (.ins C dx (fR N c)) := by rw [upd_ne pN]; exact hp
      refine ⟨_, rfl, p, C, dx, _, _, rfl, hp1, R.cl, R.nN, fR_names _ _, .inl ⟨rfl, _, SqL.of hN1⟩, _, rfl, _, rfl, N, tx (ss.eraseIdx j), (t : Nat), .str s, rfl, rfl, hN1, ?_, by omega, by omega, ?_⟩
      · rw [List.length_map]
        exact Nat.lt_of_le_of_lt (Nat.le_trans (List.length_eraseIdx_le ..) l20) (by decide)
      · have e : (tx (ss.eraseIdx j)).take ((t : Nat) : Int).toNat ++ [V.str s] ++ (tx (ss.eraseIdx j)).drop ((t : Nat) : Int).toNat = tx ((ss.eraseIdx j).take t ++ [s] ++ (ss.eraseIdx j).drop t) := by
          rw [Int.toNat_natCast]
          simp [tx]
        rw [e]
        have hp2 : (upd (upd H N (.lst (tx (ss.eraseIdx j)))) N (.lst (tx ((ss.eraseIdx j).take t ++ [s] ++ (ss.eraseIdx j).drop t)))) p = some (.ins C dx (fR N c)) := by rw [upd_ne pN]; exact hp1
        refine ⟨_, rfl, p, C, dx, _, _, rfl, hp2, R.cl, R.nC, fR_cost _ _, _, rfl, _, _, rfl, rfl, dx, fR N c, hp2, (by show 2 < 1000; decide), ?_⟩
        rw [upd_upd]
        exact kk
theorem scInitR : FnScope ["self", "names"] ["self", "names"] (defScope sInit) := ⟨rfl, rfl, rfl, by decide +kernel, rfl, by decide +kernel, by decide +kernel⟩
theorem ok_initR {f : Addr} {fd : FuncData} (F : Fun K "__init__" "Rival.__init__" sInit f fd) (T : Txt K mg) (R : TxR K C) : FnOk P w K mg base CX0 1 f fd ["self", "names"] (spInitR K C) := by
  refine F.ok scInitR (fun vs H Q E h => ?_) (fun cdv A outer s H vs Q E hr h => ?_)
  · obtain ⟨p, _, _, _, rfl, _⟩ := h
    rfl
  · obtain ⟨p, dx, G, ss, rfl, hp, hG, nd, l20, kk⟩ := h
    refine ⟨_, pss_cons (ps_fld (pv 0) (pe_callTy call_list_of (by rfl) T.list_ boot_list' (pa_cons (pv 1) pa_nil)) rfl)
      (pss_one (ps_fld (pv 0) pe_int rfl)), ?_⟩
    refine ⟨_, rfl, G, _, rfl, hG, fun N hN => ?_⟩
    have pN : p ≠ N := ne_of_none hp hN
    have hp1 : (upd H N (.lst (tx ss))) p = some (.ins C dx []) := by rw [upd_ne pN]; exact hp
    refine ⟨_, rfl, p, C, dx, _, rfl, hp1, R.cl, R.nN, (by show 0 < 1000; decide), ?_⟩
    refine ⟨_, rfl, p, C, dx, _, rfl, upd_same, R.cl, R.nC, (by show 1 < 1000; decide), ?_⟩
    refine kk N _ ⟨upd_same, ?_, nd, l20⟩ (fun c' o e ne => ?_) hN
    · rw [upd_ne pN.symm, upd_ne pN.symm]
      exact upd_same
    · rw [upd_ne ne, upd_ne ne, upd_ne (ne_of_none e hN)]
      exact e
end
end PA

set_option maxHeartbeats 1000000
namespace PA
open PySem L2 RZ
section
variable {α : Type} {ss : List α} {s t : α} {j : Nat}
theorem split_at (h : ss[j]? = some s) : ss = ss.take j ++ s :: ss.drop (j + 1) := by
  obtain ⟨hl, e⟩ := List.getElem?_eq_some_iff.mp h
  have := List.take_append_drop j ss
  rw [List.drop_eq_getElem_cons hl, e] at this
  exact this.symm
theorem erase_at : ss.eraseIdx j = ss.take j ++ ss.drop (j + 1) := List.eraseIdx_eq_take_drop_succ ..
theorem perm_erase (h : ss[j]? = some s) : (s :: ss.eraseIdx j).Perm ss := by
  have e := split_at h
  rw [erase_at]
  have p := (List.perm_middle (l₁ := ss.take j) (l₂ := ss.drop (j + 1)) (a := s)).symm
  rw [← e] at p
  exact p
theorem nodup_erase (nd : ss.Nodup) : (ss.eraseIdx j).Nodup := List.Nodup.sublist (List.eraseIdx_sublist ..) nd
theorem put_nodup (nd : ss.Nodup) (h : s ∉ ss) : (ss.take j ++ [s] ++ ss.drop j).Nodup := by
  rw [List.append_assoc, List.singleton_append]
  refine (List.perm_middle (a := s)).nodup_iff.mpr ?_
  rw [List.take_append_drop]
  exact List.nodup_cons.mpr ⟨h, nd⟩
theorem move_nodup (nd : ss.Nodup) (h : ss[j]? = some s) (i : Nat) : ((ss.eraseIdx j).take i ++ [s] ++ (ss.eraseIdx j).drop i).Nodup := by
  rw [List.append_assoc, List.singleton_append]
  refine (List.perm_middle (a := s)).nodup_iff.mpr ?_
  rw [List.take_append_drop]
  exact (perm_erase h).nodup_iff.mpr nd
theorem filt [DecidableEq α] (nd : ss.Nodup) (h : ss[j]? = some s) : (ss.filter fun x => !decide (x = s)) = ss.eraseIdx j := by
  have p := (perm_erase h).nodup_iff.mpr nd
  have hn := (List.nodup_cons.mp p).1
  have e := split_at h
  rw [erase_at] at hn ⊢
  have hn1 : ∀ x ∈ ss.take j, (!decide (x = s)) = true := fun x hx => by
    rw [Bool.not_eq_true', decide_eq_false_iff_not]
    rintro rfl
    exact hn (List.mem_append_left _ hx)
  have hn2 : ∀ x ∈ ss.drop (j + 1), (!decide (x = s)) = true := fun x hx => by
    rw [Bool.not_eq_true', decide_eq_false_iff_not]
    rintro rfl
    exact hn (List.mem_append_right _ hx)
  have key : (ss.take j ++ s :: ss.drop (j + 1)).filter (fun x => !decide (x = s)) = ss.take j ++ ss.drop (j + 1) := by
    rw [List.filter_append, List.filter_eq_self.mpr hn1, List.filter_cons_of_neg (by simp), List.filter_eq_self.mpr hn2]
  rw [← e] at key
  exact key
theorem exch_split (hs : ss[j]? = some s) (ht : ss[j + 1]? = some t) : ss = ss.take j ++ s :: t :: ss.drop (j + 2) := by
  have e := split_at hs
  obtain ⟨hl, e2⟩ := List.getElem?_eq_some_iff.mp ht
  rw [List.drop_eq_getElem_cons hl, e2] at e
  exact e
theorem exch_eq : ∀ (ss : List α) (j : Nat), ss[j]? = some s → ss[j + 1]? = some t → (ss.set j t).set (j + 1) s = ss.take j ++ [t, s] ++ ss.drop (j + 2)
  | [], j, h, _ => by simp at h
  | [_], j, _, h => by simp at h
  | a :: b :: r, 0, h, h2 => by
    simp
  | a :: b :: r, j + 1, h, h2 => by
    have ih := exch_eq (b :: r) j (by simpa using h) (by simpa using h2)
    show a :: ((b :: r).set j t).set (j + 1) s = _
    rw [ih]
    simp
theorem exch_nodup (nd : ss.Nodup) (hs : ss[j]? = some s) (ht : ss[j + 1]? = some t) : (ss.take j ++ [t, s] ++ ss.drop (j + 2)).Nodup := by
  have e := exch_split hs ht
  have p : (ss.take j ++ t :: s :: ss.drop (j + 2)).Perm (ss.take j ++ s :: t :: ss.drop (j + 2)) := List.Perm.append_left _ (List.Perm.swap ..)
  rw [← e] at p
  rw [List.append_assoc]
  exact p.nodup_iff.mpr nd
theorem move_eq (h : ss[j]? = some s) {i : Nat} (hi : i ≤ j) : (ss.eraseIdx j).take i ++ [s] ++ (ss.eraseIdx j).drop i = ss.take i ++ [s] ++ ((ss.drop i).take (j - i)) ++ ss.drop (j + 1) := by
  have hl := (List.getElem?_eq_some_iff.mp h).1
  have h1 : (ss.take j).length = j := by rw [List.length_take]; omega
  rw [erase_at]
  rw [List.take_append_of_le_length (by rw [h1]; exact hi), List.drop_append_of_le_length (by rw [h1]; exact hi), List.take_take, Nat.min_eq_left hi, List.drop_take]
  simp only [List.append_assoc]
end
theorem cut_pre (xs : List V) (k : Nat) : cutV xs none (some ((k : Nat) : Int)) = xs.take k := by
  unfold cutV
  rw [HT.sIx_none, HT.sIx_nat, List.drop_zero, Nat.sub_zero]
  rcases Nat.le_total k xs.length with h | h
  · rw [Nat.min_eq_left h]
  · rw [Nat.min_eq_right h, List.take_length, List.take_of_length_le h]
theorem cut_suf (xs : List V) (k : Nat) : cutV xs (some ((k : Nat) : Int)) none = xs.drop k := by
  unfold cutV
  rw [HT.sIx_none, HT.sIx_nat]
  rcases Nat.le_total k xs.length with h | h
  · rw [Nat.min_eq_left h, List.take_of_length_le (by rw [List.length_drop]; exact Nat.le_refl _)]
  · rw [Nat.min_eq_right h, Nat.sub_self, List.take_zero, List.drop_of_length_le h]
theorem cut_mid (xs : List V) (i k : Nat) (h1 : i ≤ xs.length) (h2 : k ≤ xs.length) : cutV xs (some ((i : Nat) : Int)) (some ((k : Nat) : Int)) = (xs.drop i).take (k - i) := by
  unfold cutV
  rw [HT.sIx_nat, HT.sIx_nat, Nat.min_eq_left h1, Nat.min_eq_left h2]
/-! ### the names -/
def some14 : List Str := ["int", "str", "list", "a", "A", "b b", "~", " ", "0", "10", "9", "a case of twenty ab", "aa", "ab"]
theorem some14_nodup : some14.Nodup := by unfold some14; decide +kernel
theorem some14_ok : ∀ s ∈ some14, PyData.strOk s = true := by unfold some14; decide +kernel
theorem tx_perm {ys : List V} {ss : List Str} (h : ys.Perm (tx ss)) : ∃ ms, ys = tx ms ∧ ms.Perm ss := by
  have fm : ∀ v ∈ ys, ∃ z : Str, v = V.str z := fun v hv => by
    obtain ⟨z, _, rfl⟩ := List.mem_map.mp (h.mem_iff.mp hv)
    exact ⟨z, rfl⟩
  let g : V → Str := fun v => match v with | .str z => z | _ => Str.empty
  refine ⟨ys.map g, ?_, ?_⟩
  · unfold tx
    rw [List.map_map]
    refine (List.map_id ys).symm.trans (List.map_congr_left fun v hv => ?_)
    obtain ⟨z, rfl⟩ := fm v hv
    rfl
  · have := h.map g
    have e : (tx ss).map g = ss := by
      unfold tx
      rw [List.map_map]
      exact (List.map_congr_left fun v hv => rfl).trans (List.map_id ss)
    rw [e] at this
    exact this
def spNames : Sp := fun vs H Q _ => ∃ (a l : Addr) (n many : Nat), vs = [.ref a, .int (many : Nat)] ∧ StreamAt H a l n ∧ n ≤ 10000 ∧ many ≤ 14 ∧
  ∀ (t : Addr) (ss : List Str) (H' : Hp), H' t = some (.lst (tx ss)) → ss.length = many → ss.Nodup → (∀ s ∈ ss, PyData.strOk s = true) → t ≠ a → t ≠ l → H t = none → StreamAt H' a l (n + 14) → Keep a l H H' → Q (.ref t) H'
section
variable {P : Program} {w : World} {K : PySem.W.Frag} {mg : Str → Option Value} {base : Heap} {C : Addr}
theorem scNames : FnScope ["_law_stream", "_law_many", "_law_some"] ["_law_stream", "_law_many"] (defScope sNames) := ⟨rfl, rfl, rfl, by decide +kernel, rfl, by decide +kernel, by decide +kernel⟩
theorem ok_names {f g1 g3 : Addr} {fd gd1 gd3 : FuncData} (F : Fun K "_law_p_names" "_law_p_names" sNames f fd) (T : Txt K mg) (D1 : Df K mg "_law_draw" sDraw g1 gd1 ["_law_stream", "_law_many"]) (D3 : Df K mg "_law_mixed" sMixed g3 gd3 ["_law_stream", "_law_some"]) : FnOk P w K mg base CX0 3 f fd ["_law_stream", "_law_many"] spNames := by
  have G3 : FnOk P w K mg base CX0 2 g3 gd3 ["_law_stream", "_law_some"] spMixed := ok_mixed D3.F T D1
  refine F.ok scNames (fun vs H Q E h => ?_) (fun cdv A outer s H vs Q E hr h => ?_)
  · obtain ⟨a, l, n, _, rfl, _⟩ := h
    rfl
  · obtain ⟨a, l, n, many, rfl, S0, hn, hm, kk⟩ := h
    refine ⟨_, pss_cons (ps_set (i := 2) scNames.nd rfl (Or.inl rfl) (pe_lst (pa_cons pe_str (pa_cons pe_str (pa_cons pe_str (pa_cons pe_str (pa_cons pe_str (pa_cons pe_str (pa_cons pe_str (pa_cons pe_str (pa_cons pe_str (pa_cons pe_str (pa_cons pe_str (pa_cons pe_str (pa_cons pe_str (pa_cons pe_str pa_nil))))))))))))))))
      (pss_one (ps_ret (pe_slice sl_list (pe_call G3 hr rfl D3.M D3.F.kp D3.B .nil pass0 (pa_cons (pv 0) (pa_cons (pv 2) pa_nil))) po_none (po_some (pv 1))))), ?_⟩
    refine ⟨by show 14 ≤ sizeLine; decide, fun L hL => ?_⟩
    have eL := new_ (o := .lst (tx some14)) hL
    have gL : (upd H L (.lst (tx some14))) L = some (.lst (tx some14)) := upd_same
    refine ⟨_, rfl, _, rfl, a, l, L, n, tx some14, rfl, S0.same eL, by omega, gL, by show 14 ≤ 48; decide, fun t ys H1 ht hp ta tl tn S1 k1 => ?_⟩
    obtain ⟨ms, rfl, pm⟩ := tx_perm hp
    refine ⟨_, rfl, _, rfl, t, _, rfl, SqL.of ht, fun q hq => ?_⟩
    rw [cut_pre]
    have eq_ := new_ (o := .lst ((tx ms).take many)) hq
    obtain ⟨qa, ql⟩ := S1.ne hq
    have hml : ms.length = 14 := by rw [pm.length_eq]; rfl
    have et : (tx ms).take many = tx (ms.take many) := by rw [tx, tx, List.map_take]
    refine kk q (ms.take many) _ (by rw [et]; exact upd_same) (by rw [List.length_take]; omega) ((pm.nodup_iff.mpr some14_nodup).sublist (List.take_sublist ..)) (fun s hs => some14_ok s (pm.mem_iff.mp (List.mem_of_mem_take hs))) qa ql ?_ (S1.same eq_) (((Keep.of eL).trans k1).trans (Keep.of eq_))
    exact keep_none ((Keep.of eL).trans k1) qa ql hq
end
end PA

namespace LF
section
variable {κ : Type} [DecidableEq κ]
/-! ### places in a list -/
def ix : List κ → κ → Nat
  | [], _ => 0
  | a :: l, k => if a = k then 0 else ix l k + 1
theorem ix_lt : ∀ {l : List κ} {k : κ}, k ∈ l → ix l k < l.length
  | [], _, h => by cases h
  | a :: l, k, h => by
    unfold ix
    by_cases e : a = k
    · rw [if_pos e]; exact Nat.succ_pos _
    · rw [if_neg e]
      rcases List.mem_cons.mp h with rfl | h
      · exact absurd rfl e
      · exact Nat.succ_lt_succ (ix_lt h)
theorem get_ix : ∀ {l : List κ} {k : κ}, k ∈ l → l[ix l k]? = some k
  | [], _, h => by cases h
  | a :: l, k, h => by
    unfold ix
    by_cases e : a = k
    · rw [if_pos e, e]; rfl
    · rw [if_neg e]
      rcases List.mem_cons.mp h with rfl | h
      · exact absurd rfl e
      · exact get_ix h
theorem ix_get : ∀ {l : List κ} {i : Nat} {k : κ}, l.Nodup → l[i]? = some k → ix l k = i
  | [], _, _, _, h => by simp at h
  | a :: l, 0, k, _, h => by
    have e : a = k := by simpa using h
    unfold ix
    rw [if_pos e]
  | a :: l, i + 1, k, hn, h => by
    have h' : l[i]? = some k := by simpa using h
    have hm : k ∈ l := List.mem_of_getElem? h'
    have hn' := List.nodup_cons.mp hn
    have e : ¬ a = k := fun e => hn'.1 (e ▸ hm)
    unfold ix
    rw [if_neg e, ix_get hn'.2 h']
theorem ix_app : ∀ {l m : List κ} {k : κ}, k ∈ l → ix (l ++ m) k = ix l k
  | [], _, _, h => by cases h
  | a :: l, m, k, h => by
    rw [List.cons_append]
    unfold ix
    by_cases e : a = k
    · rw [if_pos e, if_pos e]
    · rw [if_neg e, if_neg e]
      rcases List.mem_cons.mp h with rfl | h
      · exact absurd rfl e
      · rw [ix_app h]
theorem ix_new : ∀ {l : List κ} {k : κ}, ¬ k ∈ l → ∀ m, ix (l ++ k :: m) k = l.length
  | [], k, _, m => by
    show ix (k :: m) k = 0
    unfold ix
    rw [if_pos rfl]
  | a :: l, k, h, m => by
    rw [List.cons_append]
    unfold ix
    have h' := fun z => h (List.mem_cons_of_mem a z)
    rw [if_neg (fun e : a = k => h (by rw [e]; exact List.mem_cons_self)), ix_new h' m]
    rfl
theorem ix_inj {l : List κ} {a b : κ} (ha : a ∈ l) (hb : b ∈ l) (e : ix l a = ix l b) : a = b := by
  have h1 := get_ix ha
  have h2 := get_ix hb
  rw [e, h2] at h1
  exact (Option.some.inj h1).symm
theorem ix_map {μ : Type} [DecidableEq μ] (f : κ → μ) : ∀ {l : List κ} {k : κ}, (∀ a ∈ l, f a = f k → a = k) → ix (l.map f) (f k) = ix l k
  | [], _, _ => rfl
  | a :: l, k, h => by
    rw [List.map_cons]
    unfold ix
    by_cases e : a = k
    · rw [if_pos e, if_pos (congrArg f e)]
    · rw [if_neg e, if_neg (fun z => e (h a List.mem_cons_self z)), ix_map f (fun b hb => h b (List.mem_cons_of_mem _ hb))]
/-! ### each once, in the order of the first places -/
def push (s : List κ) (k : κ) : List κ := if k ∈ s then s else s ++ [k]
def uniq (ks : List κ) : List κ := ks.foldl push []
def numb (ks : List κ) : List Nat := ks.map fun k => ix (uniq ks) k
theorem mem_push {s : List κ} {k x : κ} : x ∈ push s k ↔ x ∈ s ∨ x = k := by
  unfold push
  by_cases h : k ∈ s
  · rw [if_pos h]
    exact ⟨.inl, fun z => z.elim id fun e => e ▸ h⟩
  · rw [if_neg h, List.mem_append, List.mem_singleton]
theorem fold_mem : ∀ {ks s : List κ} {x : κ}, x ∈ ks.foldl push s ↔ x ∈ s ∨ x ∈ ks
  | [], s, x => by simp
  | k :: ks, s, x => by
    rw [List.foldl_cons, fold_mem, mem_push, List.mem_cons]
    constructor
    · rintro ((h | h) | h)
      · exact .inl h
      · exact .inr (.inl h)
      · exact .inr (.inr h)
    · rintro (h | h | h)
      · exact .inl (.inl h)
      · exact .inl (.inr h)
      · exact .inr h
theorem uniq_mem {ks : List κ} {x : κ} : x ∈ uniq ks ↔ x ∈ ks := by
  unfold uniq
  rw [fold_mem]
  simp
theorem nodup_snoc {s : List κ} {k : κ} (h : s.Nodup) (hk : ¬ k ∈ s) : (s ++ [k]).Nodup := by
  rw [List.nodup_append]
  refine ⟨h, by simp, fun a ha b hb => ?_⟩
  rw [List.mem_singleton] at hb
  rintro rfl
  exact hk (hb ▸ ha)
theorem push_nodup {s : List κ} {k : κ} (h : s.Nodup) : (push s k).Nodup := by
  unfold push
  by_cases hk : k ∈ s
  · rw [if_pos hk]; exact h
  · rw [if_neg hk]; exact nodup_snoc h hk
theorem fold_nodup : ∀ {ks s : List κ}, s.Nodup → (ks.foldl push s).Nodup
  | [], _, h => h
  | k :: ks, s, h => by rw [List.foldl_cons]; exact fold_nodup (push_nodup h)
theorem uniq_nodup {ks : List κ} : (uniq ks).Nodup := fold_nodup List.nodup_nil
theorem fold_pre : ∀ (ks s : List κ), ∃ t, ks.foldl push s = s ++ t
  | [], s => ⟨[], by simp⟩
  | k :: ks, s => by
    obtain ⟨t, e⟩ := fold_pre ks (push s k)
    rw [List.foldl_cons, e]
    unfold push
    by_cases h : k ∈ s
    · rw [if_pos h]; exact ⟨t, rfl⟩
    · rw [if_neg h, List.append_assoc]; exact ⟨_, rfl⟩
theorem uniq_snoc (ks : List κ) (k : κ) : uniq (ks ++ [k]) = push (uniq ks) k := by
  unfold uniq
  rw [List.foldl_append]
  rfl
theorem uniq_pre (ks ls : List κ) : ∃ t, uniq (ks ++ ls) = uniq ks ++ t := by
  unfold uniq
  rw [List.foldl_append]
  exact fold_pre ls _
theorem fold_len : ∀ (ks s : List κ), (ks.foldl push s).length ≤ s.length + ks.length
  | [], s => by simp
  | k :: ks, s => by
    rw [List.foldl_cons]
    have h := fold_len ks (push s k)
    have h2 : (push s k).length ≤ s.length + 1 := by
      unfold push
      by_cases hk : k ∈ s
      · rw [if_pos hk]; omega
      · rw [if_neg hk, List.length_append]; simp
    rw [List.length_cons]
    omega
theorem uniq_len (ks : List κ) : (uniq ks).length ≤ ks.length := by
  have := fold_len ks []
  simpa [uniq] using this
theorem numb_len (ks : List κ) : (numb ks).length = ks.length := by unfold numb; rw [List.length_map]
theorem numb_get {ks : List κ} {i : Nat} {k : κ} (h : ks[i]? = some k) : (numb ks)[i]? = some (ix (uniq ks) k) := by
  unfold numb
  rw [List.getElem?_map, h]
  rfl
theorem fold_map {μ : Type} [DecidableEq μ] (f : κ → μ) : ∀ {ks s : List κ}, (∀ a b, (a ∈ ks ∨ a ∈ s) → (b ∈ ks ∨ b ∈ s) → f a = f b → a = b) → (ks.map f).foldl push (s.map f) = (ks.foldl push s).map f
  | [], s, _ => rfl
  | k :: ks, s, h => by
    rw [List.map_cons, List.foldl_cons, List.foldl_cons]
    have e : push (s.map f) (f k) = (push s k).map f := by
      unfold push
      by_cases hk : k ∈ s
      · rw [if_pos hk, if_pos (List.mem_map_of_mem hk)]
      · have : ¬ f k ∈ s.map f := fun z => by
          obtain ⟨a, ha, e⟩ := List.mem_map.mp z
          have := h a k (.inr ha) (.inl List.mem_cons_self) e
          exact hk (this ▸ ha)
        rw [if_neg hk, if_neg this, List.map_append]
        rfl
    rw [e]
    refine fold_map f fun a b ha hb => h a b ?_ ?_
    · rcases ha with ha | ha
      · exact .inl (List.mem_cons_of_mem _ ha)
      · exact (mem_push.mp ha).elim .inr fun z => .inl (z ▸ List.mem_cons_self)
    · rcases hb with hb | hb
      · exact .inl (List.mem_cons_of_mem _ hb)
      · exact (mem_push.mp hb).elim .inr fun z => .inl (z ▸ List.mem_cons_self)
theorem uniq_map {μ : Type} [DecidableEq μ] (f : κ → μ) {ks : List κ} (h : ∀ a b, a ∈ ks → b ∈ ks → f a = f b → a = b) : uniq (ks.map f) = (uniq ks).map f := by
  have := fold_map (s := []) f (ks := ks) fun a b ha hb => h a b (by simpa using ha) (by simpa using hb)
  simpa [uniq] using this
theorem numb_map {μ : Type} [DecidableEq μ] (f : κ → μ) {ks : List κ} (h : ∀ a b, a ∈ ks → b ∈ ks → f a = f b → a = b) : numb (ks.map f) = numb ks := by
  unfold numb
  rw [uniq_map f h, List.map_map]
  refine List.map_congr_left fun k hk => ?_
  exact ix_map f fun a ha e => h a k (uniq_mem.mp ha) hk e
/-- lists with the same pattern have the same numbers -/
theorem numb_congr {μ : Type} [DecidableEq μ] {ks : List κ} {ls : List μ} (hl : ks.length = ls.length) (h : ∀ (i j : Nat) (a b : κ) (c d : μ), ks[i]? = some a → ks[j]? = some b → ls[i]? = some c → ls[j]? = some d → (a = b ↔ c = d)) : numb ks = numb ls := by
  by_cases hz : ls = []
  · subst hz
    have : ks = [] := List.length_eq_zero_iff.mp hl
    subst this
    rfl
  obtain ⟨d0, _, _⟩ := List.exists_cons_of_ne_nil hz
  let f : κ → μ := fun k => ls.getD (ix ks k) d0
  have hf : ∀ (i : Nat) (a : κ), ks[i]? = some a → ls[i]? = some (f a) := by
    intro i a hi
    have hm := List.mem_of_getElem? hi
    have h1 := get_ix hm
    have hlt := ix_lt hm
    have hlt2 : ix ks a < ls.length := by rw [← hl]; exact hlt
    have hi2 : i < ls.length := by rw [← hl]; exact (List.getElem?_eq_some_iff.mp hi).1
    have e1 : ls[ix ks a]? = some ls[ix ks a] := List.getElem?_eq_getElem hlt2
    have e2 : ls[i]? = some ls[i] := List.getElem?_eq_getElem hi2
    have := (h i (ix ks a) a a _ _ hi h1 e2 e1).mp rfl
    show ls[i]? = some (ls.getD (ix ks a) d0)
    rw [List.getD_eq_getElem?_getD, e1, e2, this]
    rfl
  have e : ls = ks.map f := by
    refine List.ext_getElem? fun i => ?_
    rw [List.getElem?_map]
    cases hi : ks[i]? with
    | none =>
      rw [List.getElem?_eq_none_iff] at hi
      exact List.getElem?_eq_none_iff.mpr (by rw [← hl]; exact hi)
    | some a => exact hf i a hi
  rw [e]
  refine (numb_map f fun a b ha hb z => ?_).symm
  obtain ⟨i, hi⟩ := List.getElem?_of_mem ha
  obtain ⟨j, hj⟩ := List.getElem?_of_mem hb
  exact (h i j a b _ _ hi hj (hf i a hi) (hf j b hj)).mpr z
theorem numb_iff {ks : List κ} {i j : Nat} {a b : κ} (hi : ks[i]? = some a) (hj : ks[j]? = some b) : ((numb ks).getD i 0 = (numb ks).getD j 0) ↔ a = b := by
  rw [List.getD_eq_getElem?_getD, List.getD_eq_getElem?_getD, numb_get hi, numb_get hj]
  constructor
  · intro e
    exact ix_inj (uniq_mem.mpr (List.mem_of_getElem? hi)) (uniq_mem.mpr (List.mem_of_getElem? hj)) e
  · rintro rfl
    rfl
end
end LF

/-! a list of cases and its pairs -/
namespace RV
def tot : List Int → Int
  | [] => 0
  | x :: xs => x + tot xs
theorem tot_app : ∀ a b : List Int, tot (a ++ b) = tot a + tot b
  | [], b => by show tot b = 0 + tot b; omega
  | x :: a, b => by
    have := tot_app a b
    show x + tot (a ++ b) = x + tot a + tot b
    omega
theorem tot_perm {a b : List Int} (h : a.Perm b) : tot a = tot b := by
  induction h with
  | nil => rfl
  | cons x _ ih => show x + _ = x + _; rw [ih]
  | swap x y l =>
    show y + (x + tot l) = x + (y + tot l)
    omega
  | trans _ _ h1 h2 => exact h1.trans h2
theorem tot_zero {β : Type} {f : β → Int} : ∀ {l : List β}, (∀ x ∈ l, f x = 0) → tot (l.map f) = 0
  | [], _ => rfl
  | x :: l, h => by
    have h1 := h x (List.mem_cons_self ..)
    have h2 := tot_zero (f := f) (l := l) fun y hy => h y (List.mem_cons_of_mem _ hy)
    show f x + tot (l.map f) = 0
    omega
theorem tot_one {β : Type} {f : β → Int} : ∀ {l : List β}, (∀ x ∈ l, f x = 1) → tot (l.map f) = l.length
  | [], _ => rfl
  | x :: l, h => by
    have h1 := h x (List.mem_cons_self ..)
    have h2 := tot_one (f := f) (l := l) fun y hy => h y (List.mem_cons_of_mem _ hy)
    show f x + tot (l.map f) = ((l.length + 1 : Nat) : Int)
    omega
theorem tot_add {β : Type} (f g : β → Int) : ∀ l : List β, tot (l.map fun x => f x + g x) = tot (l.map f) + tot (l.map g)
  | [] => rfl
  | x :: l => by
    have := tot_add f g l
    show f x + g x + tot (l.map fun x => f x + g x) = f x + tot (l.map f) + (g x + tot (l.map g))
    omega
theorem tot_split {β : Type} (f : β → Int) (p : β → Bool) : ∀ l : List β, tot (l.map f) = tot ((l.filter p).map f) + tot ((l.filter fun x => !p x).map f)
  | [] => rfl
  | x :: l => by
    have := tot_split f p l
    rw [List.filter_cons, List.filter_cons]
    cases p x with
    | true =>
      show f x + tot (l.map f) = f x + tot ((l.filter p).map f) + tot ((l.filter fun x => !p x).map f)
      omega
    | false =>
      show f x + tot (l.map f) = tot ((l.filter p).map f) + (f x + tot ((l.filter fun x => !p x).map f))
      omega
section
variable {α : Type} [DecidableEq α]
def oth (n : α) (k : α × α) : Option α := if k.1 = n then some k.2 else if k.2 = n then some k.1 else none
def ord2 (gs : List α) (k : α × α) : List α := gs.filter fun z => decide (z = k.1) || decide (z = k.2)
structure Cov (gs : List α) (ks : List (α × α)) : Prop where
  nd : gs.Nodup
  ne : ∀ k ∈ ks, k.1 ≠ k.2 ∧ k.1 ∈ gs ∧ k.2 ∈ gs
  cov : ∀ n ∈ gs, (ks.filterMap (oth n)).Perm (gs.erase n)
theorem tot_oth (n : α) (a : α → Int) (f : α × α → Int) : ∀ ks : List (α × α), (∀ k ∈ ks, f k = match oth n k with | none => 0 | some o => a o) → tot (ks.map f) = tot ((ks.filterMap (oth n)).map a)
  | [], _ => rfl
  | k :: ks, h => by
    have h1 := h k (List.mem_cons_self ..)
    have ih := tot_oth n a f ks fun y hy => h y (List.mem_cons_of_mem _ hy)
    show f k + tot (ks.map f) = _
    rw [ih, h1, List.filterMap_cons]
    cases oth n k with
    | none => show 0 + _ = _; rw [Int.zero_add]
    | some o => rfl
theorem Cov.perm {gs gs' : List α} {ks : List (α × α)} (c : Cov gs ks) (p : gs'.Perm gs) : Cov gs' ks := by
  refine ⟨p.nodup_iff.mpr c.nd, fun k hk => ?_, fun n hn => (c.cov n (p.mem_iff.mp hn)).trans (p.symm.erase n)⟩
  obtain ⟨h1, h2, h3⟩ := c.ne k hk
  exact ⟨h1, p.mem_iff.mpr h2, p.mem_iff.mpr h3⟩
/-! ### two of a list -/
theorem ord2_no {gs : List α} {k : α × α} (h1 : k.1 ∉ gs) (h2 : k.2 ∉ gs) : ord2 gs k = [] := by
  unfold ord2
  rw [List.filter_eq_nil_iff]
  intro z hz
  have e1 : z ≠ k.1 := fun e => h1 (e ▸ hz)
  have e2 : z ≠ k.2 := fun e => h2 (e ▸ hz)
  simp [e1, e2]
theorem ord2_app (a b : List α) (k : α × α) : ord2 (a ++ b) k = ord2 a k ++ ord2 b k := List.filter_append ..
theorem ord2_cons (a : α) (b : List α) (k : α × α) : ord2 (a :: b) k = if a = k.1 ∨ a = k.2 then a :: ord2 b k else ord2 b k := by
  unfold ord2
  rw [List.filter_cons]
  by_cases h : a = k.1 ∨ a = k.2
  · rw [if_pos h, if_pos (by simpa using h)]
  · rw [if_neg h, if_neg (by simpa using h)]
theorem ord2_swap (gs : List α) (x y : α) : ord2 gs (x, y) = ord2 gs (y, x) := by
  unfold ord2
  congr 1
  funext z
  rw [Bool.or_comm]
/-- the one case of a part -/
theorem ord2_one {gs : List α} (nd : gs.Nodup) {x y : α} (hx : x ∈ gs) (hy : y ∉ gs) : ord2 gs (x, y) = [x] := by
  induction gs with
  | nil => cases hx
  | cons a l ih =>
    rw [ord2_cons]
    have nl := (List.nodup_cons.mp nd)
    have ya : a ≠ y := fun e => hy (e ▸ List.mem_cons_self ..)
    have yl : y ∉ l := fun h => hy (List.mem_cons_of_mem _ h)
    by_cases e : a = x
    · subst e
      rw [if_pos (.inl rfl), ord2_no nl.1 yl]
    · rw [if_neg (by rintro (h | h); exact e h; exact ya h)]
      exact ih nl.2 ((List.mem_cons.mp hx).resolve_left fun h => e h.symm) yl
/-- n and another one, by where the other one stands -/
theorem ord2_at {A B : List α} {n o : α} (nd : (A ++ n :: B).Nodup) (ho : o ∈ A ++ B) : ord2 (A ++ n :: B) (n, o) = if o ∈ A then [o, n] else [n, o] := by
  have nA := (List.nodup_append.mp nd).1
  have nB := List.nodup_cons.mp (List.nodup_append.mp nd).2.1
  have dj := (List.nodup_append.mp nd).2.2
  have nA' : n ∉ A := fun h => dj n h n (List.mem_cons_self ..) rfl
  rw [ord2_app, ord2_cons, if_pos (.inl rfl)]
  by_cases h : o ∈ A
  · have hB : o ∉ B := fun hb => dj o h o (List.mem_cons_of_mem _ hb) rfl
    rw [if_pos h, ord2_swap A, ord2_one nA h nA', ord2_no nB.1 hB]
    rfl
  · have hB : o ∈ B := (List.mem_append.mp ho).resolve_left h
    rw [if_neg h, ord2_no nA' h, ord2_swap B, ord2_one nB.2 hB nB.1]
    rfl
theorem oth_some {n o : α} {k : α × α} (h : oth n k = some o) : k = (n, o) ∨ k = (o, n) := by
  obtain ⟨x, y⟩ := k
  unfold oth at h
  dsimp only at h
  by_cases h1 : x = n
  · rw [if_pos h1] at h
    left
    rw [h1, Option.some.inj h]
  · rw [if_neg h1] at h
    by_cases h2 : y = n
    · rw [if_pos h2] at h
      right
      rw [h2, Option.some.inj h]
    · rw [if_neg h2] at h
      cases h
theorem oth_none {n : α} {k : α × α} (h : oth n k = none) : k.1 ≠ n ∧ k.2 ≠ n := by
  unfold oth at h
  by_cases h1 : k.1 = n
  · rw [if_pos h1] at h; cases h
  · rw [if_neg h1] at h
    by_cases h2 : k.2 = n
    · rw [if_pos h2] at h; cases h
    · exact ⟨h1, h2⟩
theorem ord2_oth {gs : List α} {n o : α} {k : α × α} (h : oth n k = some o) : ord2 gs k = ord2 gs (n, o) := by
  rcases oth_some h with rfl | rfl
  · rfl
  · exact ord2_swap gs _ _
/-- the place of a case in a pair -/
def pl (n : α) (l : List α) : Int := match l with
  | [] => 0
  | a :: _ => if a = n then 0 else 1
/-- what a call of n costs the rivals of two -/
def dcall (n : α) (gs : List α) (k : α × α) : Int := match oth n k with
  | none => 0
  | some _ => pl n (ord2 gs k)
theorem call_sum {A B : List α} {n : α} {ks : List (α × α)} (c : Cov (A ++ n :: B) ks) : tot (ks.map (dcall n (A ++ n :: B))) = A.length := by
  have dj := (List.nodup_append.mp c.nd).2.2
  have nA' : n ∉ A := fun h => dj n h n (List.mem_cons_self ..) rfl
  have mem : n ∈ A ++ n :: B := List.mem_append.mpr (.inr (List.mem_cons_self ..))
  have er : (A ++ n :: B).erase n = A ++ B := by
    rw [List.erase_append_right _ nA', List.erase_cons_head]
  have cv := c.cov n mem
  rw [er] at cv
  rw [tot_oth n (fun o => if o ∈ A then 1 else 0) _ ks fun k hk => ?_, tot_perm (cv.map _), List.map_append, tot_app, tot_one (l := A) fun x hx => if_pos hx, tot_zero (l := B) fun x hx => if_neg fun h => dj x h x (List.mem_cons_of_mem _ hx) rfl]
  · omega
  · unfold dcall
    cases h : oth n k with
    | none => rfl
    | some o =>
      have ho : o ∈ A ++ B := by
        refine cv.mem_iff.mp (List.mem_filterMap.mpr ⟨k, hk, h⟩)
      have hne : o ≠ n := by
        rintro rfl
        obtain ⟨h1, _⟩ := c.ne k hk
        rcases oth_some h with rfl | rfl <;> exact h1 rfl
      dsimp only
      rw [ord2_oth h, ord2_at c.nd ho]
      by_cases hA : o ∈ A
      · rw [if_pos hA, if_pos hA]
        show (if o = n then (0 : Int) else 1) = 1
        rw [if_neg hne]
      · rw [if_neg hA, if_neg hA]
        show (if n = n then (0 : Int) else 1) = 0
        rw [if_pos rfl]
/-! ### the list behind a call: n goes ahead, or stays -/
theorem move_no {A1 A2 B : List α} {n : α} {k : α × α} (h : oth n k = none) : ord2 (A1 ++ n :: (A2 ++ B)) k = ord2 (A1 ++ A2 ++ n :: B) k := by
  obtain ⟨h1, h2⟩ := oth_none h
  have hn : ¬ (n = k.1 ∨ n = k.2) := by
    rintro (e | e)
    · exact h1 e.symm
    · exact h2 e.symm
  rw [ord2_app, ord2_app, ord2_cons, ord2_cons, if_neg hn, if_neg hn, ord2_app, ord2_app, List.append_assoc]
/-- a case that is behind n stays behind, and one that is ahead of n afterwards was so before -/
theorem move_at {A1 A2 B : List α} {n o : α} (nd : (A1 ++ A2 ++ n :: B).Nodup) (ho : o ∈ A1 ++ A2 ++ B) :
    (ord2 (A1 ++ n :: (A2 ++ B)) (n, o) = [n, o] ∨ ord2 (A1 ++ n :: (A2 ++ B)) (n, o) = [o, n] ∧ ord2 (A1 ++ A2 ++ n :: B) (n, o) = [o, n]) ∧
    (ord2 (A1 ++ A2 ++ n :: B) (n, o) = [n, o] ∨ ord2 (A1 ++ A2 ++ n :: B) (n, o) = [o, n]) := by
  have p : (A1 ++ n :: (A2 ++ B)).Perm (A1 ++ A2 ++ n :: B) := by
    refine (List.perm_middle (l₁ := A1) (a := n)).trans ((List.perm_middle (l₁ := A1 ++ A2) (l₂ := B) (a := n)).trans ?_).symm
    rw [List.append_assoc]
  have nd' := p.nodup_iff.mpr nd
  have ho' : o ∈ A1 ++ (A2 ++ B) := by rw [← List.append_assoc]; exact ho
  rw [ord2_at nd ho, ord2_at nd' ho']
  constructor
  · by_cases h : o ∈ A1
    · rw [if_pos h, if_pos (List.mem_append.mpr (.inl h))]
      exact .inr ⟨rfl, rfl⟩
    · rw [if_neg h]
      exact .inl rfl
  · by_cases h : o ∈ A1 ++ A2
    · rw [if_pos h]; exact .inr rfl
    · rw [if_neg h]; exact .inl rfl
/-! ### an exchange of neighbours -/
def dexch (s t : α) (k : α × α) : Int := if k = (s, t) ∨ k = (t, s) then 1 else 0
theorem exch_sum {A B : List α} {s t : α} {ks : List (α × α)} (c : Cov (A ++ s :: t :: B) ks) : tot (ks.map (dexch s t)) = 1 := by
  have nd := c.nd
  have dj := (List.nodup_append.mp nd).2.2
  have nB := List.nodup_cons.mp (List.nodup_append.mp nd).2.1
  have nC := List.nodup_cons.mp nB.2
  have sA : s ∉ A := fun h => dj s h s (List.mem_cons_self ..) rfl
  have tA : t ∉ A := fun h => dj t h t (List.mem_cons_of_mem _ (List.mem_cons_self ..)) rfl
  have st : s ≠ t := fun e => nB.1 (e ▸ List.mem_cons_self ..)
  have er : (A ++ s :: t :: B).erase s = A ++ t :: B := by rw [List.erase_append_right _ sA, List.erase_cons_head]
  have cv := c.cov s (List.mem_append.mpr (.inr (List.mem_cons_self ..)))
  rw [er] at cv
  have z1 : ∀ x ∈ A, (if x = t then (1 : Int) else 0) = 0 := fun x hx => if_neg fun (e : x = t) => tA (e ▸ hx)
  have z2 : ∀ x ∈ B, (if x = t then (1 : Int) else 0) = 0 := fun x hx => if_neg fun (e : x = t) => nC.1 (e ▸ hx)
  rw [tot_oth s (fun o => if o = t then 1 else 0) _ ks fun k hk => ?_, tot_perm (cv.map _), List.map_append, tot_app, tot_zero (l := A) z1]
  · show (0 : Int) + ((if t = t then 1 else 0) + tot (B.map _)) = 1
    rw [if_pos rfl, tot_zero (l := B) z2]
    rfl
  · obtain ⟨x, y⟩ := k
    have hne := (c.ne _ hk).1
    unfold dexch
    cases h : oth s (x, y) with
    | none =>
      obtain ⟨h1, h2⟩ := oth_none h
      refine if_neg ?_
      rintro (e | e)
      · cases e; exact h1 rfl
      · cases e; exact h2 rfl
    | some o =>
      dsimp only
      by_cases ho : o = t
      · subst ho
        rw [if_pos rfl, if_pos (oth_some h)]
      · rw [if_neg ho]
        refine if_neg ?_
        rcases oth_some h with e | e
        · rw [e]
          rintro (z | z)
          · cases z; exact ho rfl
          · cases z; exact st rfl
        · rw [e]
          rintro (z | z)
          · cases z; exact st rfl
          · cases z; exact ho rfl
theorem exch_yes {A B : List α} {s t : α} (nd : (A ++ s :: t :: B).Nodup) {k : α × α} (h : k = (s, t) ∨ k = (t, s)) : ord2 (A ++ s :: t :: B) k = [s, t] ∧ ord2 (A ++ t :: s :: B) k = [t, s] := by
  have dj := (List.nodup_append.mp nd).2.2
  have nB := List.nodup_cons.mp (List.nodup_append.mp nd).2.1
  have nC := List.nodup_cons.mp nB.2
  have sA : s ∉ A := fun h => dj s h s (List.mem_cons_self ..) rfl
  have tA : t ∉ A := fun h => dj t h t (List.mem_cons_of_mem _ (List.mem_cons_self ..)) rfl
  have sB : s ∉ B := fun h => nB.1 (List.mem_cons_of_mem _ h)
  have key : ∀ k : α × α, k = (s, t) → ord2 (A ++ s :: t :: B) k = [s, t] ∧ ord2 (A ++ t :: s :: B) k = [t, s] := by
    rintro _ rfl
    have eA := ord2_no (k := (s, t)) sA tA
    have eB := ord2_no (k := (s, t)) sB nC.1
    constructor <;> simp [ord2_app, ord2_cons, eA, eB]
  rcases h with rfl | rfl
  · exact key _ rfl
  · rw [ord2_swap, ord2_swap (A ++ t :: s :: B)]
    exact key _ rfl
theorem exch_no {A B : List α} {s t : α} {k : α × α} (st : s ≠ t) (h : ¬ (k = (s, t) ∨ k = (t, s))) : ord2 (A ++ t :: s :: B) k = ord2 (A ++ s :: t :: B) k := by
  obtain ⟨x, y⟩ := k
  rw [ord2_app, ord2_app, ord2_cons, ord2_cons, ord2_cons, ord2_cons]
  dsimp only at h ⊢
  congr 1
  by_cases hs : s = x ∨ s = y
  · by_cases ht : t = x ∨ t = y
    · exfalso
      rcases hs with e1 | e1
      · rcases ht with e2 | e2
        · exact st (e1.trans e2.symm)
        · exact h (.inl (by rw [e1, e2]))
      · rcases ht with e2 | e2
        · exact h (.inr (by rw [e1, e2]))
        · exact st (e1.trans e2.symm)
    · rw [if_neg ht, if_pos hs, if_pos hs, if_neg ht]
  · rw [if_neg hs, if_neg hs]
/-! ### a newcomer, a dropped one -/
theorem put_ord {A B : List α} {n : α} {k : α × α} (h1 : k.1 ≠ n) (h2 : k.2 ≠ n) : ord2 (A ++ n :: B) k = ord2 (A ++ B) k := by
  rw [ord2_app, ord2_app, ord2_cons, if_neg]
  rintro (e | e)
  · exact h1 e.symm
  · exact h2 e.symm
theorem fm_congr {β γ : Type} {f g : β → Option γ} : ∀ {l : List β}, (∀ x ∈ l, f x = g x) → l.filterMap f = l.filterMap g
  | [], _ => rfl
  | x :: l, h => by
    rw [List.filterMap_cons, List.filterMap_cons, h x (List.mem_cons_self ..), fm_congr fun y hy => h y (List.mem_cons_of_mem _ hy)]
theorem fm_new {n m : α} (hne : m ≠ n) : ∀ {gs : List α}, gs.Nodup → n ∈ gs → (gs.map fun o => (m, o)).filterMap (oth n) = [m]
  | a :: l, nd, h => by
    have nl := List.nodup_cons.mp nd
    rw [List.map_cons, List.filterMap_cons]
    by_cases e : a = n
    · subst e
      have e1 : oth a (m, a) = some m := by
        unfold oth
        rw [if_neg hne, if_pos rfl]
      rw [e1]
      have e2 : (l.map fun o => (m, o)).filterMap (oth a) = [] := by
        rw [List.filterMap_eq_nil_iff]
        intro k hk
        obtain ⟨o, ho, rfl⟩ := List.mem_map.mp hk
        unfold oth
        rw [if_neg hne, if_neg fun z => nl.1 (by rw [← show o = a from z]; exact ho)]
      rw [e2]
    · have e1 : oth n (m, a) = none := by
        unfold oth
        rw [if_neg hne, if_neg e]
      rw [e1]
      exact fm_new hne nl.2 ((List.mem_cons.mp h).resolve_left fun z => e z.symm)
theorem oth_swap {n : α} {x y : α} (h : x ≠ y) : oth n (x, y) = oth n (y, x) := by
  unfold oth
  dsimp only
  by_cases h1 : x = n
  · subst h1
    rw [if_pos rfl, if_neg fun e => h e.symm, if_pos rfl]
  · rw [if_neg h1]
    by_cases h2 : y = n
    · rw [if_pos h2, if_pos h2]
    · rw [if_neg h2, if_neg h2, if_neg h1]
/-- with a newcomer m: a pair of it with each one that was there -/
theorem Cov.put {A B : List α} {m : α} {ks : List (α × α)} (c : Cov (A ++ B) ks) (hm : m ∉ A ++ B) {new : List (α × α)} (hn : new = (A ++ B).map (fun o => (m, o)) ∨ new = (A ++ B).map fun o => (o, m)) : Cov (A ++ m :: B) (ks ++ new) := by
  have p : (A ++ m :: B).Perm (m :: (A ++ B)) := List.perm_middle
  have nd2 : (m :: (A ++ B)).Nodup := List.nodup_cons.mpr ⟨hm, c.nd⟩
  have mem : ∀ x, x ∈ A ++ m :: B ↔ x = m ∨ x ∈ A ++ B := fun x => by rw [p.mem_iff, List.mem_cons]
  have fm : ∀ n, new.filterMap (oth n) = ((A ++ B).map fun o => (m, o)).filterMap (oth n) := fun n => by
    rcases hn with rfl | rfl
    · rfl
    · rw [List.filterMap_map, List.filterMap_map]
      refine fm_congr fun o ho => ?_
      exact oth_swap fun e => hm (e ▸ ho)
  refine ⟨p.nodup_iff.mpr nd2, fun k hk => ?_, fun n hn' => ?_⟩
  · rcases List.mem_append.mp hk with hk | hk
    · obtain ⟨h1, h2, h3⟩ := c.ne k hk
      exact ⟨h1, (mem _).mpr (.inr h2), (mem _).mpr (.inr h3)⟩
    · rcases hn with rfl | rfl
      · obtain ⟨o, ho, rfl⟩ := List.mem_map.mp hk
        exact ⟨fun e => hm (by rw [show m = o from e]; exact ho), (mem _).mpr (.inl rfl), (mem _).mpr (.inr ho)⟩
      · obtain ⟨o, ho, rfl⟩ := List.mem_map.mp hk
        exact ⟨fun e => hm (by rw [← show o = m from e]; exact ho), (mem _).mpr (.inr ho), (mem _).mpr (.inl rfl)⟩
  · rw [List.filterMap_append, fm]
    refine List.Perm.trans ?_ (p.symm.erase n)
    rcases (mem n).mp hn' with rfl | hg
    · rw [List.erase_cons_head]
      have e1 : ks.filterMap (oth n) = [] := by
        rw [List.filterMap_eq_nil_iff]
        intro k hk
        obtain ⟨h1, h2, h3⟩ := c.ne k hk
        unfold oth
        rw [if_neg fun (e : k.1 = n) => hm (e ▸ h2), if_neg fun (e : k.2 = n) => hm (e ▸ h3)]
      have e2 : ((A ++ B).map fun o => (n, o)).filterMap (oth n) = A ++ B := by
        rw [List.filterMap_map]
        refine (fm_congr (g := some) fun o ho => ?_).trans List.filterMap_some
        show oth n (n, o) = some o
        unfold oth
        rw [if_pos rfl]
      rw [e1, e2, List.nil_append]
    · have hne : m ≠ n := fun e => hm (e ▸ hg)
      rw [fm_new hne c.nd hg, List.erase_cons_tail (by simpa using hne)]
      exact ((c.cov n hg).append_right [m]).trans (List.perm_append_singleton ..)
/-- a dropped one goes with its pairs -/
theorem Cov.drop {A B : List α} {n : α} {ks : List (α × α)} (c : Cov (A ++ n :: B) ks) : Cov (A ++ B) (ks.filter fun k => !(decide (n = k.1) || decide (n = k.2))) := by
  have p : (A ++ n :: B).Perm (n :: (A ++ B)) := List.perm_middle
  have nd2 := List.nodup_cons.mp (p.nodup_iff.mp c.nd)
  have mem : ∀ x, x ∈ A ++ n :: B ↔ x = n ∨ x ∈ A ++ B := fun x => by rw [p.mem_iff, List.mem_cons]
  refine ⟨nd2.2, fun k hk => ?_, fun m hm => ?_⟩
  · obtain ⟨hk, hc⟩ := List.mem_filter.mp hk
    obtain ⟨h1, h2, h3⟩ := c.ne k hk
    simp only [Bool.not_eq_true', Bool.or_eq_false_iff, decide_eq_false_iff_not] at hc
    exact ⟨h1, ((mem _).mp h2).resolve_left fun e => hc.1 e.symm, ((mem _).mp h3).resolve_left fun e => hc.2 e.symm⟩
  · have hmn : m ≠ n := fun e => nd2.1 (e ▸ hm)
    have e1 : (ks.filter fun k => !(decide (n = k.1) || decide (n = k.2))).filterMap (oth m) = (ks.filterMap (oth m)).filter fun o => decide (o ≠ n) := by
      have key : ∀ l : List (α × α), (l.filter fun k => !(decide (n = k.1) || decide (n = k.2))).filterMap (oth m) = (l.filterMap (oth m)).filter fun o => decide (o ≠ n) := by
        intro l
        induction l with
        | nil => rfl
        | cons k l ih =>
          rw [List.filter_cons, List.filterMap_cons]
          obtain ⟨x, y⟩ := k
          cases h : oth m (x, y) with
          | none =>
            dsimp only
            by_cases hc : (!(decide (n = x) || decide (n = y))) = true
            · rw [if_pos hc, List.filterMap_cons, h]
              exact ih
            · rw [if_neg hc]
              exact ih
          | some o =>
            dsimp only
            rw [List.filter_cons]
            have ho : (x = m ∧ y = o) ∨ (x = o ∧ y = m) := by
              rcases oth_some h with e | e
              · cases e; exact .inl ⟨rfl, rfl⟩
              · cases e; exact .inr ⟨rfl, rfl⟩
            by_cases hon : o = n
            · have hc : ¬ (!(decide (n = x) || decide (n = y))) = true := by
                rcases ho with ⟨e1, e2⟩ | ⟨e1, e2⟩
                · simp [e2, hon]
                · simp [e1, hon]
              rw [if_neg hc, if_neg (by simp [hon])]
              exact ih
            · have hc : (!(decide (n = x) || decide (n = y))) = true := by
                rcases ho with ⟨e1, e2⟩ | ⟨e1, e2⟩
                · simp [e1, e2, Ne.symm hon, Ne.symm hmn]
                · simp [e1, e2, Ne.symm hon, Ne.symm hmn]
              rw [if_pos hc, if_pos (by simp [hon]), List.filterMap_cons, h]
              dsimp only
              rw [ih]
      exact key ks
    rw [e1]
    have q := (c.cov m ((mem m).mpr (.inr hm))).filter fun o => decide (o ≠ n)
    refine q.trans ?_
    refine (List.Perm.filter _ (p.erase m)).trans ?_
    rw [List.erase_cons_tail (by simpa using Ne.symm hmn), List.filter_cons, if_neg (by simp)]
    have : ((A ++ B).erase m).filter (fun o => decide (o ≠ n)) = (A ++ B).erase m := by
      rw [List.filter_eq_self]
      intro o ho
      have := List.mem_of_mem_erase ho
      exact decide_eq_true fun e => nd2.1 (e ▸ this)
    rw [this]
theorem Cov.nil : Cov ([] : List α) [] := ⟨List.nodup_nil, fun k hk => (List.not_mem_nil hk).elim, fun n hn => (List.not_mem_nil hn).elim⟩
end
end RV

set_option maxHeartbeats 8000000
namespace PA
open PySem L2 RZ
open C8 (pss_cut tCut)
abbrev NMoved : List Str := ["_law_pairs", "_law_names", "_law_order", "_law_name", "_law_exchanged", "_law_pair", "_law_one", "_law_other", "_law_rival", "_law_ahead", "_law_case"]
abbrev SOk (ns : List Str) : Prop := ∀ s ∈ ns, PyData.strOk s = true
theorem strs_lay : ∀ ns : List Str, SOk ns → PyData.canLayAll0 (ns.map PyData.str) = true
  | [], _ => by simp [PyData.canLayAll0]
  | z :: zs, h => by simp [PyData.canLayAll0, PyData.canLay0, h z (List.mem_cons_self ..), strs_lay zs fun s hs => h s (List.mem_cons_of_mem _ hs)]
theorem strs_depth : ∀ ns : List Str, PyData.depthAll (ns.map PyData.str) ≤ 2
  | [] => by simp [PyData.depthAll]
  | z :: zs => by
    have h1 := strs_depth zs
    simp only [List.map_cons, PyData.depthAll, PyData.depth]
    omega
theorem strs_shaped {ns : List Str} (h : SOk ns) : SeqAt.shaped (.list (ns.map PyData.str)) = true := by
  have h1 := strs_depth ns
  have h2 : PyData.depth (.list (ns.map PyData.str)) ≤ 64 := by
    simp only [PyData.depth]
    omega
  show (PyData.canLay0 (.list (ns.map PyData.str)) && decide (PyData.depth (.list (ns.map PyData.str)) ≤ 64)) = true
  rw [Bool.and_eq_true]
  exact ⟨by simp only [PyData.canLay0]; exact strs_lay ns h, decide_eq_true h2⟩
theorem dp_strs {K : PySem.W.Frag} {H : Hp} : ∀ ns : List Str, DpAll K H (tx ns) (ns.map PyData.str)
  | [] => .nil
  | z :: zs => .cons (.str z) (dp_strs zs)
/-- a pair: its names, its rival, the list of this rival, what it holds, its cost -/
structure En where
  x : Str
  y : Str
  p : Addr
  dx : Addr
  N : Addr
  nm : List Str
  c : Int
def isTr3 (H : Hp) (c : Addr) (e : En) : Prop := H c = some (.tup [.str e.x, .str e.y, .ref e.p])
def RivE (C : Addr) (H : Hp) (e : En) : Prop := RivAt C H e.p e.dx e.N e.nm e.c
def Touch (es : List En) (c : Addr) : Prop := ∃ e ∈ es, c = e.p ∨ c = e.N
def Sep (es : List En) : Prop := ∀ (i j : Nat) (e e' : En), es[i]? = some e → es[j]? = some e' → i ≠ j → e.p ≠ e'.p ∧ e.N ≠ e'.N
/-- what a move does to a pair -/
def ActE (nv : V) (xb : Bool) (os : List Str) (e e' : En) : Prop :=
  (∃ n, nv = .str n ∧ xb = false ∧ ((n ≠ e.x ∧ n ≠ e.y ∧ e' = e) ∨ ((n = e.x ∨ n = e.y) ∧ ∃ a b, RV.ord2 os (e.x, e.y) = [a, b] ∧ ∃ j, e.nm[j]? = some n ∧
     ((a = n ∧ e' = { e with nm := (e.nm.eraseIdx j).take 0 ++ [n] ++ (e.nm.eraseIdx j).drop 0, c := e.c + j }) ∨ (a ≠ n ∧ e' = { e with c := e.c + j }))))) ∨
  (nv = .non ∧ xb = true ∧ ((e.nm = RV.ord2 os (e.x, e.y) ∧ e' = e) ∨ (e.nm ≠ RV.ord2 os (e.x, e.y) ∧ ∃ s t, e.nm = [s, t] ∧ e' = { e with nm := [t, s], c := e.c + 1 })))
theorem act_id {nv : V} {xb : Bool} {os : List Str} {e e' : En} (h : ActE nv xb os e e') : e'.x = e.x ∧ e'.y = e.y ∧ e'.p = e.p ∧ e'.dx = e.dx ∧ e'.N = e.N := by
  rcases h with ⟨n, _, _, ⟨_, _, rfl⟩ | ⟨_, a, b, _, j, _, ⟨_, rfl⟩ | ⟨_, rfl⟩⟩⟩ | ⟨_, _, ⟨_, rfl⟩ | ⟨_, s, t, _, rfl⟩⟩ <;> exact ⟨rfl, rfl, rfl, rfl, rfl⟩
theorem RivE.of {C : Addr} {H H' : Hp} {e : En} (h : RivE C H e) (h1 : ∀ o, H e.p = some o → H' e.p = some o) (h2 : ∀ o, H e.N = some o → H' e.N = some o) : RivE C H' e := ⟨h1 _ h.1, h2 _ h.2.1, h.2.2⟩
def spMoved (C : Addr) : Sp := fun vs H Q _ => ∃ (PL NM OR : Addr) (nv : V) (xb : Bool) (refs : List V) (es es' : List En) (ns os : List Str), vs = [.ref PL, .ref NM, .ref OR, nv, .bl xb] ∧ H PL = some (.lst refs) ∧ Ea H isTr3 refs es ∧ (∀ e ∈ es, RivE C H e) ∧ Sep es ∧
  H NM = some (.lst (tx ns)) ∧ (∀ e ∈ es, e.x ∈ ns ∧ e.y ∈ ns) ∧ H OR = some (.lst (tx os)) ∧ os.length ≤ 60 ∧ os.Nodup ∧ SOk os ∧ (∀ e ∈ es, SOk e.nm) ∧ (∀ e ∈ es, PL ≠ e.N ∧ NM ≠ e.N ∧ OR ≠ e.N) ∧
  es'.length = es.length ∧ (∀ (i : Nat) e e', es[i]? = some e → es'[i]? = some e' → ActE nv xb os e e' ∧ e'.nm.Nodup ∧ e'.nm.length ≤ 60) ∧
  ∀ H', (∀ e ∈ es', RivE C H' e) → (∀ c o, H c = some o → ¬ Touch es c → H' c = some o) → Q .non H'
theorem strs_eqv : ∀ ns ms : List Str, PyData.eqv (.list (ns.map PyData.str)) (.list (ms.map PyData.str)) = decide (ns = ms)
  | [], [] => by simp [PyData.eqv, PyData.eqvAll]
  | [], m :: ms => by simp [PyData.eqv, PyData.eqvAll]
  | n :: ns, [] => by simp [PyData.eqv, PyData.eqvAll]
  | n :: ns, m :: ms => by
    have ih := strs_eqv ns ms
    simp only [PyData.eqv] at ih
    simp only [List.map_cons, PyData.eqv, PyData.eqvAll]
    rw [ih]
    by_cases h : n = m
    · subst h
      by_cases h2 : ns = ms <;> simp [h2]
    · simp [h]
theorem tx_flt (p : Str → Bool) (l : List Str) (i : Nat) {x : Str} (h : l[i]? = some x) : tx ((l.take (i + 1)).filter p) = tx ((l.take i).filter p) ++ if p x = true then [V.str x] else [] := by
  rw [L2.take_succ' h, List.filter_append]
  unfold tx
  rw [List.map_append, List.filter_cons]
  cases p x <;> rfl
theorem op_inK {X : Cx} {K : PySem.W.Frag} (h : X.K = K) : OpR X (compareOp .In) (rIn K false) := h ▸ op_in_seq
end PA

set_option maxHeartbeats 8000000
namespace PA
open PySem L2 RZ
open C8 (pss_cut tCut)
structure LibV (K : PySem.W.Frag) (mg : Str → Option Value) (C fOr pOr fCa fEx fPl : Addr) (dOr dCa dEx dPl : FuncData) : Prop where
  T : Txt K mg
  R : TxR K C
  FO : Fun K "order" "Rival.order" sOrder fOr dOr
  bO : Binds K dOr ["self"] []
  pO : PropOf K C "order" pOr fOr
  FC : FunC K fCa dCa
  bC2 : Binds K dCa ["self", "name", "to"] []
  mC : Meth K C "call" fCa
  FE : Fun K "exchange" "Rival.exchange" sExch fEx dEx
  bE : Binds K dEx ["self", "at"] []
  mE : Meth K C "exchange" fEx
  FL : Fun K "_place" "Rival._place" sPlace fPl dPl
  bL : Binds K dPl ["self", "name"] []
  mL : Meth K C "_place" fPl
section
variable {P : Program} {w : World} {K : PySem.W.Frag} {mg : Str → Option Value} {base : Heap} {C fOr pOr fCa fEx fPl : Addr} {dOr dCa dEx dPl : FuncData}
theorem scMoved : FnScope NMoved ["_law_pairs", "_law_names", "_law_order", "_law_name", "_law_exchanged"] (defScope sMoved) := ⟨rfl, rfl, rfl, by decide +kernel, rfl, by decide +kernel, by decide +kernel⟩
theorem ok_moved {f : Addr} {fd : FuncData} (F : Fun K "_law_p_moved" "_law_p_moved" sMoved f fd) (L : LibV K mg C fOr pOr fCa fEx fPl dOr dCa dEx dPl) : FnOk P w K mg base CX0 3 f fd ["_law_pairs", "_law_names", "_law_order", "_law_name", "_law_exchanged"] (spMoved C) := by
  have T := L.T
  have R := L.R
  have GO : FnOk P w K mg base CX0 1 fOr dOr ["self"] (spOrder C) := ok_order L.FO T R
  have GC : FnOk P w K mg base CX0 2 fCa dCa ["self", "name", "to"] (spCallR C) := ok_callR L.FC T R L.FL L.bL L.mL
  have GE : FnOk P w K mg base CX0 1 fEx dEx ["self", "at"] (spExch C) := ok_exch L.FE T R
  refine F.ok scMoved (fun vs H Q E h => ?_) (fun cdv A outer s H vs Q E hr h => ?_)
  · obtain ⟨_, _, _, _, _, _, _, _, _, _, rfl, _⟩ := h
    rfl
  · obtain ⟨PL, NM, OR, nv, xb, refs, es, es', ns, os, rfl, hPL, hE, hR, hsep, hNM, hin, hOR, o60, ond, osk, esk, hne, hlen, hact, kk⟩ := h
    have hr1 : Room 1 _ := hr.mono (by decide)
    have hr2 : Room 2 _ := hr.mono (by decide)
    refine ⟨_, pss_one (ps_for PassesOwn.never rfl (pi_list (pv 0)) (pg_name (i := 5) scMoved.nd rfl (Or.inl rfl))
      (pss_cons (ps_asg (pv 5) (pg_tup rfl (pgs_cons (pg_name (i := 6) scMoved.nd rfl (Or.inr rfl)) (pgs_cons (pg_name (i := 7) scMoved.nd rfl (Or.inr rfl)) (pgs_cons (pg_name (i := 8) scMoved.nd rfl (Or.inl rfl)) pgs_nil)))))
      (pss_one (ps_if (PW.pt (pw_and (pt_cmpR op_in_seq (pv 6) (pv 1) rfl) (pw_and (pt_cmpR op_in_seq (pv 7) (pv 1) rfl) (pw_and1 (pt_cmp (pc_notN (pv 8)))))))
        (pss_cut (ps_setLc (i := 9) (own := [("_law_case", 10)]) (g := gName 10) (by rfl) scMoved.nd rfl rfl (sw_true rfl rfl rfl (by decide +kernel)) (pi_list (pv 2)) (blkOk_by (N := NMoved) (sc := defScope sMoved) (by decide +kernel))
            (fun _ _ _ _ _ => pg_name (i := 10) scMoved.nd rfl (Or.inl rfl)) (fun _ _ _ _ _ => pts_one (pt_cmpR (op_inK (K := K) rfl) (pv 10) (pe_tup (pa_cons (pv 6) (pa_cons (pv 7) pa_nil))) rfl))
            (fun _ _ _ _ _ => pv 10))
        (pss_one (ps_if (pt_cmpR op_in_seq (pv 3) (pe_tup (pa_cons (pv 6) (pa_cons (pv 7) pa_nil))) rfl)
          (pss_one (ps_expr (pe_meth (E := E0) (pv 8) R.cl L.mC GC hr2 L.bC2 .nil pass0 (pa_cons (pv 3) (pa_cons (pe_ifExp (pt_cmpR op_eq (pe_ix ix_list (pv 9) pe_int (fun _ _ => rfl)) (pv 3) (nomark _)) (pe_bm PySem.F.plainAttrs_list PySem.F.slot_list_index PySem.F.type_list_index mt_index (pv 9) (pa_cons (pv 3) pa_nil)) pe_non) pa_nil)))))
          (pss_one (ps_if (PW.pt (pw_and (pt_val (pv 4)) (pw_and1 (pt_cmpR (op_neD hr.units) (pe_prop (E := E0) (pv 8) R.cl L.pO GO hr2 L.bO .nil pass0 rfl) (pv 9) (nomark _)))))
            (pss_one (ps_expr (pe_meth (E := E0) (pv 8) R.cl L.mE GE hr1 L.bE .nil pass0 (pa_cons pe_int pa_nil))))
            pss_nil)))))
        pss_nil)))), ?_⟩
    -- what is not touched
    have tkT : ∀ {c : Addr} {xs : List V}, H c = some (.tup xs) → ¬ Touch es c := by
      rintro c xs hc ⟨e, he, rfl | rfl⟩
      · have := (hR e he).1; rw [this] at hc; cases hc
      · have := (hR e he).2.1; rw [this] at hc; cases hc
    have tkL : ∀ {c : Addr} {xs : List V}, H c = some (.lst xs) → (∀ e ∈ es, c ≠ e.N) → ¬ Touch es c := by
      rintro c xs hc hN ⟨e, he, h | h⟩
      · have := (hR e he).1; rw [← h, hc] at this; cases this
      · exact hN e he h
    have tPL := tkL hPL fun e he => (hne e he).1
    have tNM := tkL hNM fun e he => (hne e he).2.1
    have tOR := tkL hOR fun e he => (hne e he).2.2
    have hlr : refs.length = es.length := hE.1
    refine ⟨_, rfl, PL, rfl, ⟨_, SqL.of hPL⟩, ?_⟩
    refine for_list (K := K) (a := PL) (xs := refs) (fun i σ' H' => ∃ x5 x6 x7 x8 x9, σ' = [some (.ref PL), some (.ref NM), some (.ref OR), some nv, some (.bl xb), x5, x6, x7, x8, x9, none] ∧ (∀ (k : Nat) e', es'[k]? = some e' → k < i → RivE C H' e') ∧ (∀ (k : Nat) e, es[k]? = some e → i ≤ k → RivE C H' e) ∧
        (∀ c o, H c = some o → ¬ Touch es c → H' c = some o)) ?_ ?_ ?_ ?_
    · exact ⟨none, none, none, none, none, rfl, fun k e' _ h => absurd h (Nat.not_lt_zero _), fun k e he _ => hR e (List.mem_of_getElem? he), fun _ _ h _ => h⟩
    · rintro i σ' H' _ ⟨_, _, _, _, _, _, _, _, kp⟩
      exact SqL.of (kp _ _ hPL tPL)
    · rintro i x _ H1 hx ⟨x5, x6, x7, x8, x9, rfl, hdn, hup, kp⟩
      obtain ⟨c, e, rfl, he, hc⟩ := hE.at_ hx
      have hi : i < es.length := (List.getElem?_eq_some_iff.mp he).1
      have hem := List.mem_of_getElem? he
      have he' := List.getElem?_eq_getElem (l := es') (i := i) (by omega)
      generalize es'[i] = e' at he'
      obtain ⟨act, nd', l60'⟩ := hact i e e' he he'
      obtain ⟨ax, ay, ap, adx, aN⟩ := act_id act
      have hc1 := kp _ _ hc (tkT hc)
      have hNM1 := kp _ _ hNM tNM
      have hOR1 := kp _ _ hOR tOR
      have re := hup i e he (Nat.le_refl _)
      obtain ⟨xin, yin⟩ := hin e hem
      -- the next turn, from a heap in which the rival of this pair stands as it should
      have fin : ∀ (H2 : Hp) (y5 y6 y7 y8 y9 : Option V), RivE C H2 e' → (∀ d o, H1 d = some o → d ≠ e.p → d ≠ e.N → H2 d = some o) →
          ∃ x5 x6 x7 x8 x9, [some (.ref PL), some (.ref NM), some (.ref OR), some nv, some (.bl xb), y5, y6, y7, y8, y9, none] = [some (.ref PL), some (.ref NM), some (.ref OR), some nv, some (.bl xb), x5, x6, x7, x8, x9, none] ∧ (∀ (k : Nat) e', es'[k]? = some e' → k < i + 1 → RivE C H2 e') ∧ (∀ (k : Nat) e, es[k]? = some e → i + 1 ≤ k → RivE C H2 e) ∧
            (∀ c o, H c = some o → ¬ Touch es c → H2 c = some o) := by
        intro H2 y5 y6 y7 y8 y9 r2 k2
        have other : ∀ (k : Nat) (d : En), es[k]? = some d → k ≠ i → (∀ o, H1 d.p = some o → H2 d.p = some o) ∧ (∀ o, H1 d.N = some o → H2 d.N = some o) := by
          intro k d hd hk
          obtain ⟨s1, s2⟩ := hsep k i d e hd he hk
          have rd := hR d (List.mem_of_getElem? hd)
          have re0 := hR e hem
          have pN : d.p ≠ e.N := fun z => by have := rd.1; rw [z, re0.2.1] at this; cases this
          have Np : d.N ≠ e.p := fun z => by have := rd.2.1; rw [z, re0.1] at this; cases this
          exact ⟨fun o h => k2 _ _ h s1 pN, fun o h => k2 _ _ h Np s2⟩
        refine ⟨_, _, _, _, _, rfl, fun k d' hd' hk => ?_, fun k d hd hk => ?_, fun d o hd ht => ?_⟩
        · by_cases hki : k = i
          · subst hki
            rw [he'] at hd'
            cases hd'
            exact r2
          · have hkl : k < es.length := by have := (List.getElem?_eq_some_iff.mp hd').1; omega
            have hd := List.getElem?_eq_getElem hkl
            generalize es[k] = d at hd
            obtain ⟨_, _, bp, _, bN⟩ := act_id (hact k d d' hd hd').1
            obtain ⟨o1, o2⟩ := other k d hd hki
            refine RivE.of (hdn k d' hd' (by omega)) ?_ ?_
            · rw [bp]; exact o1
            · rw [bN]; exact o2
        · obtain ⟨o1, o2⟩ := other k d hd (by omega)
          exact RivE.of (hup k d hd (by omega)) o1 o2
        · exact k2 _ _ (kp _ _ hd ht) (fun z => ht ⟨e, hem, .inl z⟩) fun z => ht ⟨e, hem, .inr z⟩
      refine ⟨_, rfl, c, _, rfl, SqT.of hc1, rfl, _, _, rfl, _, _, rfl, _, _, rfl, rfl, ?_⟩
      refine ⟨_, rfl, _, rfl, NM, _, rfl, .inl (SqL.of hNM1), rfl, tx_flat _, _, rfl, ?_⟩
      show ite (inV (V.str e.x) (tx ns) = true) _ _
      rw [inV_tx, decide_eq_true xin]
      refine iteT ⟨_, rfl, _, rfl, NM, _, rfl, .inl (SqL.of hNM1), rfl, tx_flat _, _, rfl, ?_⟩
      show ite (inV (V.str e.y) (tx ns) = true) _ _
      rw [inV_tx, decide_eq_true yin]
      refine iteT ⟨_, rfl, _, rfl, ?_⟩
      rw [decide_eq_false (by intro z; cases z)]
      refine iteT ?_
      -- the two in the new order
      refine ⟨fun σ' H' => ∃ AH, σ' = [some (.ref PL), some (.ref NM), some (.ref OR), some nv, some (.bl xb), some (.ref c), some (.str e.x), some (.str e.y), some (.ref e.p), some (.ref AH), none] ∧ Same H1 H' ∧ H' AH = some (.lst (tx (RV.ord2 os (e.x, e.y)))), ?_, ?_⟩
      · refine ⟨_, rfl, OR, rfl, ⟨_, SqL.of hOR1⟩, fun Dd hD => ?_⟩
        refine lc_list (K := K) (a := OR) (xs := tx os) (fun j H' => Same H1 H' ∧ H' Dd = some (.lst (tx ((os.take j).filter fun z => decide (z = e.x) || decide (z = e.y))))) ⟨new_ hD, upd_same⟩ (fun j H' _ q => SqL.of (q.1 _ _ hOR1)) ?_ ?_
        · rintro j z H2 hz ⟨s2, hd⟩
          rw [List.getElem?_map, Option.map_eq_some_iff] at hz
          obtain ⟨n, hn, rfl⟩ := hz
          have hf := tx_flt (fun z => decide (z = e.x) || decide (z = e.y)) os j hn
          refine ⟨rfl, ?_⟩
          refine ⟨_, rfl, _, rfl, _, rfl, by show 2 ≤ sizeLine; decide, fun tp htp => ⟨tp, _, rfl, .inr (SqT.of upd_same), rfl, rfl, _, rfl, ?_⟩⟩
          show ite (inV (V.str n) (tx [e.x, e.y]) = true) _ _
          rw [inV_tx, show decide (n ∈ [e.x, e.y]) = (decide (n = e.x) || decide (n = e.y)) by simp]
          have st := new_ (o := .tup [V.str e.x, .str e.y]) htp
          have s3 := s2.trans st
          have hd3 := st _ _ hd
          have hjl : j < os.length := (List.getElem?_eq_some_iff.mp hn).1
          cases hb : (decide (n = e.x) || decide (n = e.y)) with
          | false =>
            rw [hb, if_neg (by decide), List.append_nil] at hf
            rw [if_neg (by decide), hf]
            exact ⟨s3, hd3⟩
          | true =>
            rw [hb, if_pos rfl] at hf
            rw [if_pos rfl]
            refine ⟨_, rfl, _, hd3, ?_, ?_, ?_⟩
            · rw [List.length_map]
              have := List.length_filter_le (fun z => decide (z = e.x) || decide (z = e.y)) (os.take j)
              rw [List.length_take] at this
              exact Nat.lt_of_le_of_lt (by omega : _ ≤ 60) (by decide)
            · intro d o ed
              rw [upd_ne (ne_of_none ed hD)]
              exact s3 _ _ ed
            · rw [upd_same, hf]
        · rintro H2 ⟨s2, hd⟩
          rw [List.length_map, List.take_length] at hd
          exact ⟨Dd, rfl, s2, hd⟩
      rintro _ H2 ⟨AH, rfl, s2, hAH⟩
      have re2 : RivE C H2 e := ⟨s2 _ _ re.1, s2 _ _ re.2.1, re.2.2⟩
      refine ⟨_, rfl, _, rfl, _, rfl, by show 2 ≤ sizeLine; decide, fun tp htp => ?_⟩
      have st := new_ (o := .tup [V.str e.x, .str e.y]) htp
      have s3 := s2.trans st
      have re3 : RivE C (upd H2 tp (.tup [V.str e.x, .str e.y])) e := ⟨st _ _ re2.1, st _ _ re2.2.1, re2.2.2⟩
      have hAH3 := st _ _ hAH
      have htp3 : (upd H2 tp (.tup [V.str e.x, .str e.y])) tp = some (.tup [V.str e.x, .str e.y]) := upd_same
      generalize (upd H2 tp (.tup [V.str e.x, .str e.y])) = H3 at s3 re3 hAH3 htp3 ⊢
      rcases act with ⟨n, rfl, rfl, hac⟩ | ⟨rfl, rfl, hac⟩
      · refine ⟨tp, _, rfl, .inr (SqT.of htp3), rfl, rfl, _, rfl, ?_⟩
        show ite (inV (V.str n) (tx [e.x, e.y]) = true) _ _
        rw [inV_tx, show decide (n ∈ [e.x, e.y]) = (decide (n = e.x) || decide (n = e.y)) by simp]
        rcases hac with ⟨n1, n2, rfl⟩ | ⟨nin, a, b, hab, j, hj, hres⟩
        · rw [decide_eq_false n1, decide_eq_false n2]
          refine iteF ⟨_, rfl, false, rfl, iteF ?_⟩
          exact fin H3 _ _ _ _ _ re3 fun d o hd _ _ => s3 _ _ hd
        · rw [show (decide (n = e.x) || decide (n = e.y)) = true by simpa using nin]
          refine iteT ?_
          rw [hab] at hAH3
          refine ⟨_, rfl, e.p, e.dx, _, rfl, re3.1, fR_no _ _ (by decide +kernel) (by decide +kernel), _, rfl, _, rfl, AH, _, 0, .str a, rfl, rfl, SqL.of hAH3, rfl, _, rfl, rfl, _, rfl, ?_⟩
          rcases hres with ⟨rfl, rfl⟩ | ⟨hne', rfl⟩
          · refine ifD_yes rfl ?_
            have i1 : eqV (.str a) (.str a) = true := by rw [eqV_str]; exact decide_eq_true rfl
            refine ⟨_, rfl, .inl ⟨rfl, _, SqL.of hAH3⟩, _, rfl, AH, _, .str a, 0, .str a, rfl, rfl, SqL.of hAH3, rfl, tx_flat _, rfl, i1, fun m z' hm => absurd hm (Nat.not_lt_zero _), e.p, e.dx, e.N, e.nm, e.c, a, j, .int ((0 : Nat) : Int), rfl, re3, hj, .inr ⟨0, rfl, Nat.zero_le _, ?_⟩⟩
            have pN : e.p ≠ e.N := ne_of re3.1 re3.2.1 (by intro z; cases z)
            refine fin _ _ _ _ _ _ ⟨upd_same, ?_, nd', l60'⟩ fun d o hd h1 h2 => ?_
            · show (upd (upd H3 e.N _) e.p _) e.N = _
              rw [upd_ne pN.symm, upd_same]
            · rw [upd_ne h1, upd_ne h2]
              exact s3 _ _ hd
          · refine ifD_no (fun z => hne' (by injection z)) ?_
            refine ⟨e.p, e.dx, e.N, e.nm, e.c, n, j, .non, rfl, re3, hj, .inl ⟨rfl, ?_⟩⟩
            have pN : e.p ≠ e.N := ne_of re3.1 re3.2.1 (by intro z; cases z)
            refine fin _ _ _ _ _ _ ⟨upd_same, ?_, nd', l60'⟩ fun d o hd h1 h2 => ?_
            · show (upd H3 e.p _) e.N = _
              rw [upd_ne pN.symm]
              exact re3.2.1
            · rw [upd_ne h1]
              exact s3 _ _ hd
      · refine ⟨tp, _, rfl, .inr (SqT.of htp3), rfl, rfl, _, rfl, ?_⟩
        refine iteF ⟨_, rfl, true, rfl, iteT ?_⟩
        have sk2 : SOk (RV.ord2 os (e.x, e.y)) := fun s hs => osk s (List.mem_filter.mp hs).1
        refine ⟨_, rfl, e.p, e.dx, _, rfl, re3.1, e.p, e.dx, e.N, e.nm, e.c, rfl, re3, fun q hq => ?_⟩
        have sq := new_ (o := .lst (tx e.nm)) hq
        have hq4 : (upd H3 q (.lst (tx e.nm))) q = some (.lst (tx e.nm)) := upd_same
        have s4 := s3.trans sq
        have re4 : RivE C (upd H3 q (.lst (tx e.nm))) e := ⟨sq _ _ re3.1, sq _ _ re3.2.1, re3.2.2⟩
        have hAH4 := sq _ _ hAH3
        generalize (upd H3 q (.lst (tx e.nm))) = H4 at s4 re4 hAH4 hq4 ⊢
        refine ⟨_, rfl, .list (e.nm.map PyData.str), .list ((RV.ord2 os (e.x, e.y)).map PyData.str), .lst (SqL.of hq4) (dp_strs _), .lst (SqL.of hAH4) (dp_strs _), strs_shaped (esk e hem), strs_shaped sk2, _, rfl, ?_⟩
        rw [strs_eqv]
        rcases hac with ⟨heq, rfl⟩ | ⟨hneq, s, t, hst, rfl⟩
        · rw [decide_eq_true heq]
          refine iteF ?_
          exact fin H4 _ _ _ _ _ re4 fun d o hd _ _ => s4 _ _ hd
        · rw [decide_eq_false hneq]
          refine iteT ?_
          have re5 : RivAt C H4 e.p e.dx e.N [s, t] e.c := by rw [← hst]; exact re4
          refine ⟨_, rfl, e.p, e.dx, _, rfl, re4.1, fR_no _ _ (by decide +kernel) (by decide +kernel), e.p, e.dx, e.N, [s, t], e.c, 0, s, t, rfl, re5, rfl, rfl, fun H0 s0 => ?_⟩
          have pN : e.p ≠ e.N := ne_of re4.1 re4.2.1 (by intro z; cases z)
          refine fin _ _ _ _ _ _ ⟨upd_same, ?_, nd', l60'⟩ fun d o hd h1 h2 => ?_
          · show (upd (upd H0 e.N _) e.p _) e.N = _
            rw [upd_ne pN.symm, upd_same]
            rfl
          · rw [upd_ne h1, upd_ne h2]
            exact s0 _ _ (s4 _ _ hd)
    · rintro σ' H1 ⟨x5, x6, x7, x8, x9, rfl, hdn, hup, kp⟩
      rw [hlr] at hdn
      exact kk H1 (fun e' he' => by
        obtain ⟨k, hk⟩ := List.getElem?_of_mem he'
        exact hdn k e' hk (by have := (List.getElem?_eq_some_iff.mp hk).1; omega)) kp
end
end PA

set_option maxHeartbeats 8000000
namespace PA
open PySem L2 RZ
abbrev key (e : En) : Str × Str := (e.x, e.y)
structure LV (C : Addr) (H : Hp) (sa sl PL PR gp gdx gN : Addr) (pool gs : List Str) (gc : Int) (refs : List V) (es : List En) (n : Nat) : Prop where
  st : StreamAt H sa sl n
  hP : H PL = some (.lst (tx pool))
  gr : RivAt C H gp gdx gN gs gc
  pr : H PR = some (.lst refs)
  ea : Ea H isTr3 refs es
  re : ∀ e ∈ es, RivE C H e
  sep : Sep es
  pa : PL ≠ sa ∧ PL ≠ sl
  ra : PR ≠ sa ∧ PR ≠ sl
  ga : gN ≠ sa ∧ gN ≠ sl
  rp : PR ≠ PL
  gP : gN ≠ PL
  gR : gN ≠ PR
  eN : ∀ e ∈ es, (e.N ≠ sa ∧ e.N ≠ sl) ∧ e.N ≠ PL ∧ e.N ≠ PR ∧ e.N ≠ gN
  eP : ∀ e ∈ es, e.p ≠ gp
theorem StreamAt.ins {H : Hp} {a l p C dx : Addr} {n : Nat} {fs : List (Str × V)} (S : StreamAt H a l n) (h : H p = some (.ins C dx fs)) : p ≠ a ∧ p ≠ l := by
  obtain ⟨ne, ns, x, z, w1, w2, _⟩ := S
  exact ⟨ne_of h w1 (by intro z; cases z), ne_of h w2 (by intro z; cases z)⟩
theorem StreamAt.tup {H : Hp} {a l p : Addr} {n : Nat} {xs : List V} (S : StreamAt H a l n) (h : H p = some (.tup xs)) : p ≠ a ∧ p ≠ l := by
  obtain ⟨ne, ns, x, z, w1, w2, _⟩ := S
  exact ⟨ne_of h w1 (by intro z; cases z), ne_of h w2 (by intro z; cases z)⟩
theorem StreamAt.of {H H' : Hp} {a l : Addr} {n : Nat} (S : StreamAt H a l n) (h1 : ∀ o, H a = some o → H' a = some o) (h2 : ∀ o, H l = some o → H' l = some o) : StreamAt H' a l n := by
  obtain ⟨ne, ns, x, z, w1, w2, w3⟩ := S
  exact ⟨ne, ns, x, z, h1 _ w1, h2 _ w2, w3⟩
section
variable {C : Addr} {H H' : Hp} {sa sl PL PR gp gdx gN : Addr} {pool gs : List Str} {gc : Int} {refs : List V} {es : List En} {n n' : Nat}
theorem LV.kept (h : LV C H sa sl PL PR gp gdx gN pool gs gc refs es n) (s : StreamAt H' sa sl n') (k : Keep sa sl H H') : LV C H' sa sl PL PR gp gdx gN pool gs gc refs es n' := by
  have g := h.st.ins h.gr.1
  exact { h with
    st := s
    hP := k _ _ h.pa.1 h.pa.2 h.hP
    gr := ⟨k _ _ g.1 g.2 h.gr.1, k _ _ h.ga.1 h.ga.2 h.gr.2.1, h.gr.2.2⟩
    pr := k _ _ h.ra.1 h.ra.2 h.pr
    ea := h.ea.imp fun c e q => k _ _ (h.st.tup q).1 (h.st.tup q).2 q
    re := fun e he => RivE.of (h.re e he) (fun o z => k _ _ (h.st.ins (h.re e he).1).1 (h.st.ins (h.re e he).1).2 z) fun o z => k _ _ (h.eN e he).1.1 (h.eN e he).1.2 z }
theorem LV.same (h : LV C H sa sl PL PR gp gdx gN pool gs gc refs es n) (s : Same H H') : LV C H' sa sl PL PR gp gdx gN pool gs gc refs es n := h.kept (h.st.same s) (Keep.of s)
theorem LV.setN (h : LV C H sa sl PL PR gp gdx gN pool gs gc refs es n) {gs2 : List Str} (nd : gs2.Nodup) (l : gs2.length ≤ 60) : LV C (upd H gN (.lst (tx gs2))) sa sl PL PR gp gdx gN pool gs2 gc refs es n := by
  have hN := h.gr.2.1
  exact { h with
    st := h.st.lst hN h.ga.1 h.ga.2
    hP := by rw [upd_ne h.gP.symm]; exact h.hP
    gr := ⟨by rw [upd_ne (ne_of h.gr.1 hN (by intro z; cases z))]; exact h.gr.1, upd_same, nd, l⟩
    pr := by rw [upd_ne h.gR.symm]; exact h.pr
    ea := h.ea.imp fun c e q => by
      show (upd H gN _) c = _
      rw [upd_ne (ne_of (H := H) q hN (by intro z; cases z))]
      exact q
    re := fun e he => RivE.of (h.re e he) (fun o z => by rw [upd_ne (ne_of (h.re e he).1 hN (by intro z; cases z))]; exact z) fun o z => by rw [upd_ne (h.eN e he).2.2.2]; exact z }
theorem LV.setC (h : LV C H sa sl PL PR gp gdx gN pool gs gc refs es n) (c2 : Int) : LV C (upd H gp (.ins C gdx (fR gN c2))) sa sl PL PR gp gdx gN pool gs c2 refs es n := by
  have hg := h.gr.1
  have g := h.st.ins hg
  have nl : ∀ {q : Addr} {xs : List V}, H q = some (.lst xs) → q ≠ gp := fun z => ne_of z hg (by intro y; cases y)
  exact { h with
    st := h.st.of (fun o z => by rw [upd_ne g.1.symm]; exact z) fun o z => by rw [upd_ne g.2.symm]; exact z
    hP := by rw [upd_ne (nl h.hP)]; exact h.hP
    gr := ⟨upd_same, by rw [upd_ne (nl h.gr.2.1)]; exact h.gr.2.1, h.gr.2.2⟩
    pr := by rw [upd_ne (nl h.pr)]; exact h.pr
    ea := h.ea.imp fun c e q => by
      show (upd H gp _) c = _
      rw [upd_ne (ne_of (H := H) q hg (by intro z; cases z))]
      exact q
    re := fun e he => RivE.of (h.re e he) (fun o z => by rw [upd_ne (h.eP e he)]; exact z) fun o z => by rw [upd_ne (nl (h.re e he).2.1)]; exact z }
/-- the pairs have made their moves -/
theorem LV.moved (h : LV C H sa sl PL PR gp gdx gN pool gs gc refs es n) {es' : List En} (hl : es'.length = es.length) (id_ : ∀ (i : Nat) (e e' : En), es[i]? = some e → es'[i]? = some e' → e'.x = e.x ∧ e'.y = e.y ∧ e'.p = e.p ∧ e'.dx = e.dx ∧ e'.N = e.N)
    (r' : ∀ e ∈ es', RivE C H' e) (kp : ∀ c o, H c = some o → ¬ Touch es c → H' c = some o) : LV C H' sa sl PL PR gp gdx gN pool gs gc refs es' n := by
  have old : ∀ {i : Nat} {e' : En}, es'[i]? = some e' → ∃ e, es[i]? = some e ∧ e'.x = e.x ∧ e'.y = e.y ∧ e'.p = e.p ∧ e'.dx = e.dx ∧ e'.N = e.N := fun {i e'} h' => by
    have hi : i < es.length := by have := (List.getElem?_eq_some_iff.mp h').1; omega
    exact ⟨_, List.getElem?_eq_getElem hi, id_ i _ _ (List.getElem?_eq_getElem hi) h'⟩
  have mem : ∀ {e' : En}, e' ∈ es' → ∃ e ∈ es, e'.p = e.p ∧ e'.N = e.N := fun {e'} he => by
    obtain ⟨i, hi⟩ := List.getElem?_of_mem he
    obtain ⟨e, h1, _, _, h2, _, h3⟩ := old hi
    exact ⟨e, List.mem_of_getElem? h1, h2, h3⟩
  have tl : ∀ {q : Addr} {xs : List V}, H q = some (.lst xs) → (∀ e ∈ es, e.N ≠ q) → ¬ Touch es q := by
    rintro q xs z hN ⟨e, he, y | y⟩
    · have := (h.re e he).1; rw [← y, z] at this; cases this
    · exact hN e he y.symm
  have tt : ∀ {q : Addr} {xs : List V}, H q = some (.tup xs) → ¬ Touch es q := by
    rintro q xs z ⟨e, he, y | y⟩
    · have := (h.re e he).1; rw [← y, z] at this; cases this
    · have := (h.re e he).2.1; rw [← y, z] at this; cases this
  have tg : ¬ Touch es gp := by
    rintro ⟨e, he, y | y⟩
    · exact h.eP e he y.symm
    · have := (h.re e he).2.1; rw [← y, h.gr.1] at this; cases this
  have hst : StreamAt H' sa sl n := by
    obtain ⟨ne, ns, x, z, w1, w2, w3⟩ := id h.st
    exact h.st.of (fun o q => kp _ _ q (tl w1 fun e he => (h.eN e he).1.1)) fun o q => kp _ _ q (tl w2 fun e he => (h.eN e he).1.2)
  exact { h with
    st := hst
    hP := kp _ _ h.hP (tl h.hP fun e he => (h.eN e he).2.1)
    gr := ⟨kp _ _ h.gr.1 tg, kp _ _ h.gr.2.1 (tl h.gr.2.1 fun e he => (h.eN e he).2.2.2), h.gr.2.2⟩
    pr := kp _ _ h.pr (tl h.pr fun e he => (h.eN e he).2.2.1)
    ea := ⟨h.ea.1.trans hl.symm, fun i x e' hx he' => by
      obtain ⟨e, he, a1, a2, a3, _, _⟩ := old he'
      obtain ⟨c, hc, q⟩ := h.ea.2 i x e hx he
      refine ⟨c, hc, ?_⟩
      have := kp _ _ q (tt q)
      show H' c = some (.tup [.str e'.x, .str e'.y, .ref e'.p])
      rw [a1, a2, a3]
      exact this⟩
    re := r'
    sep := fun i j e e' hi hj hij => by
      obtain ⟨d, hd, _, _, p1, _, n1⟩ := old hi
      obtain ⟨d', hd', _, _, p2, _, n2⟩ := old hj
      rw [p1, p2, n1, n2]
      exact h.sep i j d d' hd hd' hij
    eN := fun e' he' => by
      obtain ⟨e, he, _, n1⟩ := mem he'
      rw [n1]
      exact h.eN e he
    eP := fun e' he' => by
      obtain ⟨e, he, p1, _⟩ := mem he'
      rw [p1]
      exact h.eP e he }
theorem sep_snoc {es : List En} {e : En} (h : Sep es) (hn : ∀ d ∈ es, d.p ≠ e.p ∧ d.N ≠ e.N) : Sep (es ++ [e]) := by
  have at_ : ∀ {i : Nat} {d : En}, (es ++ [e])[i]? = some d → (es[i]? = some d ∧ i < es.length) ∨ (d = e ∧ i = es.length) := fun {i d} hd => by
    rcases Nat.lt_or_ge i es.length with hi | hi
    · rw [List.getElem?_append_left hi] at hd
      exact .inl ⟨hd, hi⟩
    · rw [List.getElem?_append_right hi] at hd
      have hl := (List.getElem?_eq_some_iff.mp hd).1
      have h0 : i - es.length = 0 := by
        have : i - es.length < 1 := hl
        omega
      rw [h0] at hd
      cases hd
      exact .inr ⟨rfl, by omega⟩
  intro i j d d' hi hj hij
  rcases at_ hi with ⟨h1, l1⟩ | ⟨rfl, e1⟩
  · rcases at_ hj with ⟨h2, l2⟩ | ⟨rfl, e2⟩
    · exact h i j d d' h1 h2 hij
    · exact hn d (List.mem_of_getElem? h1)
  · rcases at_ hj with ⟨h2, l2⟩ | ⟨rfl, e2⟩
    · have := hn d' (List.mem_of_getElem? h2)
      exact ⟨this.1.symm, this.2.symm⟩
    · omega
/-- a new pair is put behind the others -/
theorem LV.add (h : LV C H sa sl PL PR gp gdx gN pool gs gc refs es n) (s : Same H H') {e : En} {t : Addr} (re : RivE C H' e) (p0 : H e.p = none) (N0 : H e.N = none) (ht : H' t = some (.tup [.str e.x, .str e.y, .ref e.p])) :
    LV C (upd H' PR (.lst (refs ++ [.ref t]))) sa sl PL PR gp gdx gN pool gs gc (refs ++ [.ref t]) (es ++ [e]) n := by
  have h' := h.same s
  have hpr := h'.pr
  have ne : ∀ {q : Addr} {o : HO}, H q = some o → e.N ≠ q := fun {q o} z y => by rw [y, z] at N0; cases N0
  have nt : ∀ {c : Addr} {xs : List V}, H' c = some (.tup xs) → c ≠ PR := fun z => ne_of z hpr (by intro y; cases y)
  have ni : ∀ {c : Addr} {C dx : Addr} {fs : List (Str × V)}, H' c = some (.ins C dx fs) → c ≠ PR := fun z => ne_of z hpr (by intro y; cases y)
  obtain ⟨_, _, _, _, w1, w2, _⟩ := id h.st
  have two : ∀ d ∈ es, d.p ≠ e.p ∧ d.N ≠ e.N := fun d hd => ⟨(fun y => by have := (h.re d hd).1; rw [y, p0] at this; cases this), (fun y => by have := (h.re d hd).2.1; rw [y, N0] at this; cases this)⟩
  exact { h' with
    st := h'.st.lst hpr h.ra.1 h.ra.2
    hP := by rw [upd_ne h.rp.symm]; exact h'.hP
    gr := ⟨by rw [upd_ne (ni h'.gr.1)]; exact h'.gr.1, by rw [upd_ne h.gR]; exact h'.gr.2.1, h'.gr.2.2⟩
    pr := upd_same
    ea := (h'.ea.imp fun c d q => by
      show (upd H' PR _) c = _
      rw [upd_ne (nt q)]
      exact q).push (by
      show (upd H' PR _) t = _
      rw [upd_ne (nt ht)]
      exact ht)
    re := fun d hd => by
      rcases List.mem_append.mp hd with hd | hd
      · exact RivE.of (h'.re d hd) (fun o z => by rw [upd_ne (ni (h'.re d hd).1)]; exact z) fun o z => by rw [upd_ne (h.eN d hd).2.2.1]; exact z
      · cases List.mem_singleton.mp hd
        exact RivE.of re (fun o z => by rw [upd_ne (ni re.1)]; exact z) fun o z => by rw [upd_ne (ne h.pr)]; exact z
    sep := sep_snoc h.sep two
    eN := fun d hd => by
      rcases List.mem_append.mp hd with hd | hd
      · exact h.eN d hd
      · cases List.mem_singleton.mp hd
        exact ⟨⟨ne w1, ne w2⟩, ne h.hP, ne h.pr, ne h.gr.2.1⟩
    eP := fun d hd => by
      rcases List.mem_append.mp hd with hd | hd
      · exact h.eP d hd
      · cases List.mem_singleton.mp hd
        exact fun y => by have := h.gr.1; rw [← y, p0] at this; cases this }
/-- the pairs are another list -/
theorem LV.newR (h : LV C H sa sl PL PR gp gdx gN pool gs gc refs es n) (s : Same H H') {q : Addr} {refs2 : List V} {es2 : List En} (hq : H' q = some (.lst refs2)) (q0 : H q = none) (ea : Ea H' isTr3 refs2 es2) (re : ∀ e ∈ es2, RivE C H' e) (sep : Sep es2)
    (old : ∀ e ∈ es2, e ∈ es ∨ H e.p = none ∧ H e.N = none ∧ e.N ≠ q) : LV C H' sa sl PL q gp gdx gN pool gs gc refs2 es2 n := by
  have h' := h.same s
  have nq : ∀ {c : Addr} {o : HO}, H c = some o → c ≠ q := fun {c o} z y => by rw [y, q0] at z; cases z
  obtain ⟨_, _, _, _, w1, w2, _⟩ := id h.st
  exact { h' with
    pr := hq
    ea := ea
    re := re
    sep := sep
    ra := ⟨(nq w1).symm, (nq w2).symm⟩
    rp := (nq h.hP).symm
    gR := nq h.gr.2.1
    eN := fun d hd => by
      rcases old d hd with hd | ⟨p0, N0, hN⟩
      · obtain ⟨a1, a2, a3, a4⟩ := h.eN d hd
        exact ⟨a1, a2, nq (h.re d hd).2.1, a4⟩
      · have ne : ∀ {q : Addr} {o : HO}, H q = some o → d.N ≠ q := fun {q o} z y => by rw [y, z] at N0; cases N0
        exact ⟨⟨ne w1, ne w2⟩, ne h.hP, hN, ne h.gr.2.1⟩
    eP := fun d hd => by
      rcases old d hd with hd | ⟨p0, _, _⟩
      · exact h.eP d hd
      · exact fun y => by have := h.gr.1; rw [← y, p0] at this; cases this }
end
end PA

set_option maxHeartbeats 8000000
namespace PA
open PySem L2 RZ
/-- what holds of the list, its pairs, the cost and what the dropped ones cost -/
structure LPu (pool gs : List Str) (es : List En) (gc go : Int) : Prop where
  sub : ∀ s ∈ gs, s ∈ pool
  cov : RV.Cov gs (es.map key)
  ord : ∀ e ∈ es, e.nm = RV.ord2 gs (key e)
  sum : gc = go + RV.tot (es.map fun e => e.c)
theorem pick_es {R : En → En → Prop} : ∀ {es : List En}, (∀ e ∈ es, ∃ e', R e e') → ∃ es' : List En, es'.length = es.length ∧ ∀ (i : Nat) (e e' : En), es[i]? = some e → es'[i]? = some e' → R e e'
  | [], _ => ⟨[], rfl, fun i e e' h _ => by simp at h⟩
  | a :: es, h => by
    obtain ⟨a', ha⟩ := h a (List.mem_cons_self ..)
    obtain ⟨es', hl, hp⟩ := pick_es fun e he => h e (List.mem_cons_of_mem _ he)
    refine ⟨a' :: es', by rw [List.length_cons, List.length_cons, hl], fun i e e' h1 h2 => ?_⟩
    cases i with
    | zero =>
      cases h1
      cases h2
      exact ha
    | succ i => exact hp i e e' (by simpa using h1) (by simpa using h2)
theorem ext_es {β : Type} {f g : En → β} {es es' : List En} (hl : es'.length = es.length) (h : ∀ (i : Nat) (e e' : En), es[i]? = some e → es'[i]? = some e' → f e' = g e) : es'.map f = es.map g := by
  apply List.ext_getElem?
  intro i
  rw [List.getElem?_map, List.getElem?_map]
  rcases Nat.lt_or_ge i es.length with hi | hi
  · have h1 := List.getElem?_eq_getElem hi
    have h2 := List.getElem?_eq_getElem (l := es') (i := i) (by omega)
    rw [h1, h2]
    show some _ = some _
    rw [h i _ _ h1 h2]
  · rw [List.getElem?_eq_none (by omega), List.getElem?_eq_none (by omega)]
    rfl
/-- the pairs behind a move -/
theorem pu_move {pool gs gs2 : List Str} {es es' : List En} {gc go D : Int} {nv : V} {xb : Bool} {d : Str × Str → Int} (L : LPu pool gs es gc go) (p : gs2.Perm gs) (hl : es'.length = es.length)
    (h : ∀ (i : Nat) (e e' : En), es[i]? = some e → es'[i]? = some e' → ActE nv xb gs2 e e' ∧ e'.nm = RV.ord2 gs2 (key e) ∧ e'.c = e.c + d (key e)) (hd : RV.tot ((es.map key).map d) = D) : LPu pool gs2 es' (gc + D) go := by
  have ek : es'.map key = es.map key := ext_es hl fun i e e' h1 h2 => by
    obtain ⟨a1, a2, _⟩ := act_id (h i e e' h1 h2).1
    show (e'.x, e'.y) = (e.x, e.y)
    rw [a1, a2]
  refine ⟨fun s hs => L.sub s (p.mem_iff.mp hs), by rw [ek]; exact L.cov.perm p, fun e' he' => ?_, ?_⟩
  · obtain ⟨i, hi⟩ := List.getElem?_of_mem he'
    have hil : i < es.length := by have := (List.getElem?_eq_some_iff.mp hi).1; omega
    obtain ⟨a, b, _⟩ := h i _ _ (List.getElem?_eq_getElem hil) hi
    obtain ⟨a1, a2, _⟩ := act_id a
    rw [b]
    show _ = RV.ord2 gs2 (e'.x, e'.y)
    rw [a1, a2]
  · have ec : es'.map (fun e => e.c) = es.map fun e => e.c + d (key e) := ext_es hl fun i e e' h1 h2 => (h i e e' h1 h2).2.2
    rw [ec, RV.tot_add (fun e : En => e.c) (fun e => d (key e)), L.sum]
    rw [List.map_map] at hd
    have : RV.tot (es.map fun e => d (key e)) = D := hd
    omega
theorem ord2_nodup {gs : List Str} (nd : gs.Nodup) (k : Str × Str) : (RV.ord2 gs k).Nodup := nd.filter _
theorem ord2_len (gs : List Str) (k : Str × Str) : (RV.ord2 gs k).length ≤ gs.length := List.length_filter_le ..
/-- a call -/
theorem pu_call {pool gs : List Str} {es : List En} {gc go : Int} (L : LPu pool gs es gc go) {j t : Nat} {n : Str} (hj : gs[j]? = some n) (ht : t ≤ j) :
    ∃ es' : List En, es'.length = es.length ∧ (∀ (i : Nat) (e e' : En), es[i]? = some e → es'[i]? = some e' → ActE (.str n) false ((gs.eraseIdx j).take t ++ [n] ++ (gs.eraseIdx j).drop t) e e' ∧ e'.nm = RV.ord2 ((gs.eraseIdx j).take t ++ [n] ++ (gs.eraseIdx j).drop t) (key e)) ∧
      LPu pool ((gs.eraseIdx j).take t ++ [n] ++ (gs.eraseIdx j).drop t) es' (gc + j) go := by
  have jl := (List.getElem?_eq_some_iff.mp hj).1
  have e2 : (gs.eraseIdx j).take t ++ [n] ++ (gs.eraseIdx j).drop t = gs.take t ++ n :: ((gs.drop t).take (j - t) ++ gs.drop (j + 1)) := by
    rw [move_eq hj ht]
    simp
  have e1 : gs = gs.take t ++ (gs.drop t).take (j - t) ++ n :: gs.drop (j + 1) := by
    have := split_at hj
    have h2 : gs.take j = gs.take t ++ (gs.drop t).take (j - t) := by
      have : t + (j - t) = j := by omega
      rw [← this, List.take_add, this]
    rw [← h2]
    exact this
  have lA : (gs.take t ++ (gs.drop t).take (j - t)).length = j := by
    rw [List.length_append, List.length_take, List.length_take, List.length_drop]
    omega
  rw [e2]
  generalize gs.take t = A1 at *
  generalize (gs.drop t).take (j - t) = A2 at *
  generalize gs.drop (j + 1) = B at *
  clear hj jl
  subst e1
  have nd := L.cov.nd
  have p : (A1 ++ n :: (A2 ++ B)).Perm (A1 ++ A2 ++ n :: B) := by
    refine (List.perm_middle (l₁ := A1) (a := n)).trans ((List.perm_middle (l₁ := A1 ++ A2) (l₂ := B) (a := n)).trans ?_).symm
    rw [List.append_assoc]
  obtain ⟨es', hl, hp⟩ := pick_es (R := fun e e' => ActE (.str n) false (A1 ++ n :: (A2 ++ B)) e e' ∧ e'.nm = RV.ord2 (A1 ++ n :: (A2 ++ B)) (key e) ∧ e'.c = e.c + RV.dcall n (A1 ++ A2 ++ n :: B) (key e)) (es := es) fun e he => by
    have ho := L.ord e he
    obtain ⟨kne, kx, ky⟩ := L.cov.ne (key e) (List.mem_map.mpr ⟨e, he, rfl⟩)
    cases h : RV.oth n (key e) with
    | none =>
      obtain ⟨h1, h2⟩ := RV.oth_none h
      refine ⟨e, .inl ⟨n, rfl, rfl, .inl ⟨fun z => h1 z.symm, fun z => h2 z.symm, rfl⟩⟩, ?_, ?_⟩
      · rw [ho, RV.move_no h]
      · unfold RV.dcall
        rw [h]
        show e.c = e.c + 0
        omega
    | some o =>
      have kin : n = e.x ∨ n = e.y := by
        rcases RV.oth_some h with z | z
        · exact .inl (congrArg Prod.fst z).symm
        · exact .inr (congrArg Prod.snd z).symm
      have one : o ≠ n := by
        rintro rfl
        rcases RV.oth_some h with z | z <;> exact kne (by rw [z])
      have omem : o ∈ A1 ++ A2 ++ B := by
        have : o ∈ A1 ++ A2 ++ n :: B := by
          rcases RV.oth_some h with z | z
          · have := ky; rw [z] at this; exact this
          · have := kx; rw [z] at this; exact this
        rcases List.mem_append.mp this with hm | hm
        · exact List.mem_append.mpr (.inl hm)
        · rcases List.mem_cons.mp hm with hm | hm
          · exact absurd hm one
          · exact List.mem_append.mpr (.inr hm)
      obtain ⟨hnew, hold⟩ := RV.move_at nd omem
      have d1 : RV.dcall n (A1 ++ A2 ++ n :: B) (key e) = RV.pl n (RV.ord2 (A1 ++ A2 ++ n :: B) (key e)) := by
        unfold RV.dcall
        rw [h]
      rw [d1]
      rw [← RV.ord2_oth h, ← RV.ord2_oth h] at hnew
      rw [← RV.ord2_oth h] at hold
      have no : n ≠ o := fun z => one z.symm
      rcases hold with hold | hold
      · rcases hnew with hnew | ⟨_, hbad⟩
        · refine ⟨{ e with nm := (e.nm.eraseIdx 0).take 0 ++ [n] ++ (e.nm.eraseIdx 0).drop 0, c := e.c + (0 : Nat) }, .inl ⟨n, rfl, rfl, .inr ⟨kin, n, o, hnew, 0, by rw [ho, hold]; rfl, .inl ⟨rfl, rfl⟩⟩⟩, ?_, ?_⟩
          · show (e.nm.eraseIdx 0).take 0 ++ [n] ++ (e.nm.eraseIdx 0).drop 0 = _
            rw [ho, hold, hnew]
            rfl
          · show e.c + ((0 : Nat) : Int) = _
            rw [hold]
            show e.c + ((0 : Nat) : Int) = e.c + (if n = n then 0 else 1)
            rw [if_pos rfl]
            rfl
        · rw [hold] at hbad
          injection hbad with z
          exact absurd z no
      · have hpl : RV.pl n (RV.ord2 (A1 ++ A2 ++ n :: B) (key e)) = 1 := by
          rw [hold]
          show (if o = n then (0 : Int) else 1) = 1
          rw [if_neg one]
        rw [hpl]
        rcases hnew with hnew | ⟨hnew, _⟩
        · refine ⟨{ e with nm := (e.nm.eraseIdx 1).take 0 ++ [n] ++ (e.nm.eraseIdx 1).drop 0, c := e.c + (1 : Nat) }, .inl ⟨n, rfl, rfl, .inr ⟨kin, n, o, hnew, 1, by rw [ho, hold]; rfl, .inl ⟨rfl, rfl⟩⟩⟩, ?_, rfl⟩
          show (e.nm.eraseIdx 1).take 0 ++ [n] ++ (e.nm.eraseIdx 1).drop 0 = _
          rw [ho, hold, hnew]
          rfl
        · refine ⟨{ e with c := e.c + (1 : Nat) }, .inl ⟨n, rfl, rfl, .inr ⟨kin, o, n, hnew, 1, by rw [ho, hold]; rfl, .inr ⟨one, rfl⟩⟩⟩, ?_, rfl⟩
          show e.nm = _
          rw [ho, hold, hnew]
  refine ⟨es', hl, fun i e e' h1 h2 => ⟨(hp i e e' h1 h2).1, (hp i e e' h1 h2).2.1⟩, ?_⟩
  have cs := RV.call_sum (A := A1 ++ A2) (B := B) L.cov
  rw [lA] at cs
  exact pu_move L p hl hp cs
/-- an exchange -/
theorem pu_exch {pool gs : List Str} {es : List En} {gc go : Int} (L : LPu pool gs es gc go) {j : Nat} {s t : Str} (hs : gs[j]? = some s) (ht : gs[j + 1]? = some t) :
    ∃ es' : List En, es'.length = es.length ∧ (∀ (i : Nat) (e e' : En), es[i]? = some e → es'[i]? = some e' → ActE .non true ((gs.set j t).set (j + 1) s) e e' ∧ e'.nm = RV.ord2 ((gs.set j t).set (j + 1) s) (key e)) ∧
      LPu pool ((gs.set j t).set (j + 1) s) es' (gc + 1) go := by
  have e2 : (gs.set j t).set (j + 1) s = gs.take j ++ t :: s :: gs.drop (j + 2) := by
    rw [exch_eq gs j hs ht]
    simp
  have e1 := exch_split hs ht
  rw [e2]
  generalize gs.take j = A at *
  generalize gs.drop (j + 2) = B at *
  clear hs ht e2
  subst e1
  have nd := L.cov.nd
  have st : s ≠ t := by
    have nB := List.nodup_cons.mp (List.nodup_append.mp nd).2.1
    exact fun e => nB.1 (e ▸ List.mem_cons_self ..)
  have p : (A ++ t :: s :: B).Perm (A ++ s :: t :: B) := (List.Perm.swap ..).append_left A
  obtain ⟨es', hl, hp⟩ := pick_es (R := fun e e' => ActE .non true (A ++ t :: s :: B) e e' ∧ e'.nm = RV.ord2 (A ++ t :: s :: B) (key e) ∧ e'.c = e.c + RV.dexch s t (key e)) (es := es) fun e he => by
    have ho := L.ord e he
    by_cases hk : key e = (s, t) ∨ key e = (t, s)
    · obtain ⟨h1, h2⟩ := RV.exch_yes nd hk
      refine ⟨{ e with nm := [t, s], c := e.c + 1 }, .inr ⟨rfl, rfl, .inr ⟨?_, s, t, by rw [ho, h1], rfl⟩⟩, h2.symm, ?_⟩
      · show e.nm ≠ RV.ord2 _ (key e)
        rw [ho, h1, h2]
        intro z
        injection z with z
        exact st z
      · unfold RV.dexch
        rw [if_pos hk]
    · have hn := RV.exch_no (A := A) (B := B) st hk
      refine ⟨e, .inr ⟨rfl, rfl, .inl ⟨by rw [ho]; exact hn.symm, rfl⟩⟩, by rw [ho]; exact hn.symm, ?_⟩
      unfold RV.dexch
      rw [if_neg hk]
      omega
  exact ⟨es', hl, fun i e e' h1 h2 => ⟨(hp i e e' h1 h2).1, (hp i e e' h1 h2).2.1⟩, pu_move L p hl hp (RV.exch_sum L.cov)⟩
/-- a newcomer -/
theorem pu_put {pool gs : List Str} {es ne : List En} {gc go : Int} (L : LPu pool gs es gc go) {n : Str} (hn : n ∉ gs) (hp : n ∈ pool) (j : Nat) (hk : ne.map key = gs.map fun o => (n, o)) (ho : ∀ e ∈ ne, e.nm = RV.ord2 (gs.take j ++ [n] ++ gs.drop j) (key e)) (hc : ∀ e ∈ ne, e.c = 0) :
    LPu pool (gs.take j ++ [n] ++ gs.drop j) (es ++ ne) gc go := by
  have e1 : gs = gs.take j ++ gs.drop j := (List.take_append_drop j gs).symm
  have e2 : gs.take j ++ [n] ++ gs.drop j = gs.take j ++ n :: gs.drop j := by simp
  rw [e2] at ho ⊢
  generalize gs.take j = A at *
  generalize gs.drop j = B at *
  subst e1
  refine ⟨fun s hs => ?_, ?_, fun e he => ?_, ?_⟩
  · rcases List.mem_append.mp hs with hs | hs
    · exact L.sub s (List.mem_append.mpr (.inl hs))
    · rcases List.mem_cons.mp hs with rfl | hs
      · exact hp
      · exact L.sub s (List.mem_append.mpr (.inr hs))
  · rw [List.map_append]
    exact L.cov.put hn (.inl hk)
  · rcases List.mem_append.mp he with he | he
    · obtain ⟨_, kx, ky⟩ := L.cov.ne (key e) (List.mem_map.mpr ⟨e, he, rfl⟩)
      rw [L.ord e he]
      exact (RV.put_ord (fun z => hn (by rw [← z]; exact kx)) fun z => hn (by rw [← z]; exact ky)).symm
    · exact ho e he
  · rw [List.map_append, RV.tot_app, RV.tot_zero hc, L.sum]
    omega
/-- a dropped one -/
theorem pu_drop {pool gs : List Str} {es : List En} {gc go : Int} (L : LPu pool gs es gc go) {j : Nat} {n : Str} (hj : gs[j]? = some n) :
    LPu pool (gs.eraseIdx j) (es.filter fun e => !(decide (n = e.x) || decide (n = e.y))) gc (go + RV.tot ((es.filter fun e => decide (n = e.x) || decide (n = e.y)).map fun e => e.c)) := by
  have e1 := split_at hj
  rw [erase_at]
  generalize gs.take j = A at *
  generalize gs.drop (j + 1) = B at *
  clear hj
  subst e1
  refine ⟨fun s hs => L.sub s ?_, ?_, fun e he => ?_, ?_⟩
  · rcases List.mem_append.mp hs with hs | hs
    · exact List.mem_append.mpr (.inl hs)
    · exact List.mem_append.mpr (.inr (List.mem_cons_of_mem _ hs))
  · have := L.cov.drop
    have ek : (es.filter fun e => !(decide (n = e.x) || decide (n = e.y))).map key = (es.map key).filter fun k => !(decide (n = k.1) || decide (n = k.2)) := by
      rw [List.filter_map]
      rfl
    rw [ek]
    exact this
  · obtain ⟨he, hc⟩ := List.mem_filter.mp he
    simp only [Bool.not_eq_true', Bool.or_eq_false_iff, decide_eq_false_iff_not] at hc
    rw [L.ord e he]
    exact RV.put_ord (fun z => hc.1 z.symm) fun z => hc.2 z.symm
  · have := RV.tot_split (fun e : En => e.c) (fun e => decide (n = e.x) || decide (n = e.y)) es
    rw [L.sum]
    omega
theorem tot_sum : ∀ l : List Int, l.sum = RV.tot l
  | [] => rfl
  | x :: l => by
    rw [List.sum_cons, tot_sum l]
    rfl
end PA

set_option maxHeartbeats 8000000
namespace PA
open PySem L2 RZ
open C8 (pss_cut tCut)
abbrev NLw : List Str := ["_law_script", "_law_stream", "_law_pool", "_law_first", "_law_great", "_law_pairs", "_law_at", "_law_gone", "_law_turn", "_law_names", "_law_kind", "_law_name", "_law_other", "_law_one", "_law_rival", "_law_place", "_law_pair", "_law_case"]
structure Prog (K : PySem.W.Frag) (mg : Str → Option Value) (C fI fOr pOr fCa fEx fPu fDr fPl fDraw fStart fPick fMixed fSame fNames fMv : Addr) (dI dOr dCa dEx dPu dDr dPl dDraw dStart dPick dMixed dSame dNames dMv : FuncData) : Prop where
  V : LibV K mg C fOr pOr fCa fEx fPl dOr dCa dEx dPl
  mgC : mg "Rival" = some (.ref C)
  FI : Fun K "__init__" "Rival.__init__" sInit fI dI
  bI : Binds K dI ["self", "names"] []
  M : Mk K C fI
  FP : Fun K "put" "Rival.put" sPut fPu dPu
  bP : Binds K dPu ["self", "name", "at"] []
  mP : Meth K C "put" fPu
  FD : Fun K "drop" "Rival.drop" sDrop fDr dDr
  bD : Binds K dDr ["self", "name"] []
  mD : Meth K C "drop" fDr
  sum_ : mg "sum" = none
  draw : Df K mg "_law_draw" sDraw fDraw dDraw ["_law_stream", "_law_many"]
  start : Df K mg "_law_start" sStart fStart dStart ["_law_script"]
  pick : Df K mg "_law_pick" sPick fPick dPick ["_law_stream", "_law_some"]
  mixed : Df K mg "_law_mixed" sMixed fMixed dMixed ["_law_stream", "_law_some"]
  same : Df K mg "_law_same" sSame fSame dSame ["_law_found", "_law_due"]
  names : Df K mg "_law_p_names" sNames fNames dNames ["_law_stream", "_law_many"]
  moved : Df K mg "_law_p_moved" sMoved fMv dMv ["_law_pairs", "_law_names", "_law_order", "_law_name", "_law_exchanged"]
theorem ifNo {p A B : Prop} [Decidable p] (h : p) (q : B) : if (!decide p) = true then A else B := by
  rw [decide_eq_true h]
  exact q
def spLaw (K : PySem.W.Frag) : Sp := fun vs H Q _ => ∃ (a : Addr) (ns : List Int), vs = [.ref a] ∧ SqL K H a (ns.map V.int) ∧ ns.length ≤ 63 ∧ ∀ H', Q (.bl true) H'
theorem mk_riv {K : PySem.W.Frag} {C : Addr} {H : Hp} {Q : VK} {E : XK} {G : Addr} {ss : List Str} (hG : Sq K H G (tx ss)) (nd : ss.Nodup) (l : ss.length ≤ 60) {x dx : Addr} (nx : H x = none) (ndx : H dx = none) (nex : dx ≠ x)
    (kk : ∀ N H', Same H H' → RivAt C H' x dx N ss 0 → H N = none → Q .non H') : spInitR K C [V.ref x, V.ref G] (upd (upd H dx (.own x)) x (.ins C dx [])) Q E := by
  have s1 : Same H (upd (upd H dx (.own x)) x (.ins C dx [])) := fun c o e => by
    rw [upd_ne (ne_of_none e nx), upd_ne (ne_of_none e ndx)]
    exact e
  exact ⟨x, dx, G, ss, rfl, upd_same, hG.up s1, nd, l, fun N H' rv kp hN => kk N H' (fun c o e => kp c o (s1 _ _ e) (ne_of_none e nx)) rv (L2.Same.none s1 hN)⟩
theorem sep_app {es ne : List En} (h : Sep es) (h2 : Sep ne) (hn : ∀ d ∈ es, ∀ e ∈ ne, d.p ≠ e.p ∧ d.N ≠ e.N) : Sep (es ++ ne) := by
  have at_ : ∀ {i : Nat} {d : En}, (es ++ ne)[i]? = some d → (es[i]? = some d ∧ i < es.length) ∨ (ne[i - es.length]? = some d ∧ es.length ≤ i) := fun {i d} hd => by
    rcases Nat.lt_or_ge i es.length with hi | hi
    · rw [List.getElem?_append_left hi] at hd
      exact .inl ⟨hd, hi⟩
    · rw [List.getElem?_append_right hi] at hd
      exact .inr ⟨hd, hi⟩
  intro i j d d' hi hj hij
  rcases at_ hi with ⟨h1, l1⟩ | ⟨h1, l1⟩
  · rcases at_ hj with ⟨h3, l3⟩ | ⟨h3, l3⟩
    · exact h i j d d' h1 h3 hij
    · exact hn d (List.mem_of_getElem? h1) d' (List.mem_of_getElem? h3)
  · rcases at_ hj with ⟨h3, l3⟩ | ⟨h3, l3⟩
    · have := hn d' (List.mem_of_getElem? h3) d (List.mem_of_getElem? h1)
      exact ⟨this.1.symm, this.2.symm⟩
    · exact h2 _ _ d d' h1 h3 (by omega)
theorem sep_filter : ∀ {es : List En}, Sep es → ∀ p : En → Bool, Sep (es.filter p)
  | [], _, _ => fun i j e e' h => by simp at h
  | a :: es, h, p => by
    have ht : Sep es := fun i j e e' h1 h2 hij => h (i + 1) (j + 1) e e' (by simpa using h1) (by simpa using h2) (by omega)
    have ih := sep_filter ht p
    rw [List.filter_cons]
    split
    · refine sep_app (es := [a]) (fun i j e e' h1 h2 hij => ?_) ih fun d hd e he => ?_
      · have hi : i < 1 := (List.getElem?_eq_some_iff.mp h1).1
        have hj : j < 1 := (List.getElem?_eq_some_iff.mp h2).1
        omega
      · cases List.mem_singleton.mp hd
        obtain ⟨k, hk⟩ := List.getElem?_of_mem (List.mem_filter.mp he).1
        exact h 0 (k + 1) a e rfl (by simpa using hk) (by omega)
    · exact ih
theorem ord2_ij {gs : List Str} (nd : gs.Nodup) {i : Nat} {o b : Str} (hb : gs[i]? = some b) (ho : o ∈ gs.take i) : RV.ord2 gs (o, b) = [o, b] := by
  have e := split_at hb
  generalize gs.take i = A at *
  generalize gs.drop (i + 1) = B at *
  clear hb
  subst e
  rw [RV.ord2_swap, RV.ord2_at nd (List.mem_append.mpr (.inl ho)), if_pos ho]
theorem Two.strs {K : PySem.W.Frag} {H : Hp} {n : Nat} {a b : Addr} {ss : List Str} (ha : H a = some (.lst (tx ss))) (hb : H b = some (.lst (tx ss))) (h : ss.length ≤ 60) : Two K H (n + 1) (.ref a) (.ref b) := by
  refine .lst ha hb rfl (by rw [List.length_map]; exact Nat.le_trans h (by decide)) fun i x y h1 h2 => ?_
  rw [h1] at h2
  cases h2
  rw [List.getElem?_map, Option.map_eq_some_iff] at h1
  obtain ⟨z, _, rfl⟩ := h1
  exact .str _ _
theorem op_notInK {X : Cx} {K : PySem.W.Frag} (h : X.K = K) : OpR X (compareOp .NotIn) (rIn K true) := h ▸ op_notIn_seq
theorem boot_sum : bootBuiltins "sum" = some (.builtin "sum") := by decide +kernel
theorem ix_listK {X : Cx} {K : PySem.W.Frag} (h : X.K = K) : IxR X (rIxL K) := h ▸ ix_list
theorem sl_tupK {X : Cx} {K : PySem.W.Frag} (h : X.K = K) : SlR X (rSlT K) := h ▸ sl_tup
theorem pe_fldF {X : Cx} {K : PySem.W.Frag} (hK : X.K = K) {e : PySem.Expr} {f : Str} {pos : Pos} {ta : TE} (h : PE X e ta) (h2 : attributeBase e f X.env (eval e X.env) = eval e X.env := by rfl) : PE X (e.Attribute f pos) (tFld K ta f) := by
  subst hK
  exact pe_fld h h2
section
variable {P : Program} {w : World} {K : PySem.W.Frag} {mg : Str → Option Value} {base : Heap}
theorem scLaw : FnScope NLw ["_law_script"] (defScope sLaw) := ⟨rfl, rfl, rfl, by decide +kernel, rfl, by decide +kernel, by decide +kernel⟩
theorem ok_law {f C fI fOr pOr fCa fEx fPu fDr fPl fDraw fStart fPick fMixed fSame fNames fMv : Addr} {fd dI dOr dCa dEx dPu dDr dPl dDraw dStart dPick dMixed dSame dNames dMv : FuncData} (F : Fun K "law" "law" sLaw f fd)
    (G : Prog K mg C fI fOr pOr fCa fEx fPu fDr fPl fDraw fStart fPick fMixed fSame fNames fMv dI dOr dCa dEx dPu dDr dPl dDraw dStart dPick dMixed dSame dNames dMv) : FnOk P w K mg base CX0 5 f fd ["_law_script"] (spLaw K) := by
  have VV := G.V
  have T := VV.T
  have R := VV.R
  have GI : FnOk P w K mg base CX0 1 fI dI ["self", "names"] (spInitR K C) := ok_initR G.FI T R
  have GO : FnOk P w K mg base CX0 1 fOr dOr ["self"] (spOrder C) := ok_order VV.FO T R
  have GC : FnOk P w K mg base CX0 2 fCa dCa ["self", "name", "to"] (spCallR C) := ok_callR VV.FC T R VV.FL VV.bL VV.mL
  have GE : FnOk P w K mg base CX0 1 fEx dEx ["self", "at"] (spExch C) := ok_exch VV.FE T R
  have GP : FnOk P w K mg base CX0 1 fPu dPu ["self", "name", "at"] (spPut C) := ok_put G.FP T R
  have GD : FnOk P w K mg base CX0 2 fDr dDr ["self", "name"] (spDrop C) := ok_drop G.FD T R VV.FL VV.bL VV.mL
  have GDraw : FnOk P w K mg base CX0 1 fDraw dDraw ["_law_stream", "_law_many"] spDraw := ok_draw G.draw.F T
  have GStart : FnOk P w K mg base CX0 1 fStart dStart ["_law_script"] (spStart K) := ok_start G.start.F T
  have GPick : FnOk P w K mg base CX0 2 fPick dPick ["_law_stream", "_law_some"] spPick := ok_pick G.pick.F T G.draw
  have GNames : FnOk P w K mg base CX0 3 fNames dNames ["_law_stream", "_law_many"] spNames := ok_names G.names.F T G.draw G.mixed
  have GSame : FnOk P w K mg base CX0 2 fSame dSame ["_law_found", "_law_due"] (spSame K 1) := ok_same G.same T 1
  have GMv : FnOk P w K mg base CX0 3 fMv dMv ["_law_pairs", "_law_names", "_law_order", "_law_name", "_law_exchanged"] (spMoved C) := ok_moved G.moved.F VV
  refine F.ok scLaw (fun vs H Q E h => ?_) (fun cdv A outer s H vs Q E hr h => ?_)
  · obtain ⟨a, ns, rfl, _⟩ := h
    rfl
  · obtain ⟨a, ns, rfl, hS, hlen, kk⟩ := h
    have hr1 : Room 1 _ := hr.mono (by decide)
    have hr2 : Room 2 _ := hr.mono (by decide)
    have hr3 : Room 3 _ := hr.mono (by decide)
    refine ⟨_, (pss_cons (ps_set (i := 1) scLaw.nd rfl (Or.inl rfl) (pe_call GStart hr1 rfl G.start.M G.start.F.kp G.start.B .nil pass0 (pa_cons (pv 0) pa_nil)))
      (pss_cons (ps_set (i := 2) scLaw.nd rfl (Or.inr rfl) (pe_call GNames hr3 rfl G.names.M G.names.F.kp G.names.B .nil pass0 (pa_cons (pv 1) (pa_cons pe_int pa_nil))))
      (pss_cons (ps_set (i := 3) scLaw.nd rfl (Or.inl rfl) (pe_op op_add pe_int (pe_call GDraw hr1 rfl G.draw.M G.draw.F.kp G.draw.B .nil pass0 (pa_cons (pv 1) (pa_cons pe_int pa_nil)))))
      (pss_cut (ps_par (i := 4) (j := 5) (by rfl) scLaw.nd rfl rfl (by decide) rfl rfl (pa_cons (pe_make (E := E0) G.M GI hr2 rfl G.mgC G.bI .nil pass0 (pa_cons (pe_slice sl_list (pv 2) po_none (po_some (pv 3))) pa_nil)) (pa_cons (pe_lst pa_nil) pa_nil)) (by rfl))
      (pss_cut (ps_for PassesOwn.never rfl (pi_range1 (by rfl) T.range_ (pa_cons (pv 3) pa_nil)) (pg_name (i := 6) scLaw.nd rfl (Or.inr rfl)) (pss_one (ps_set (i := 5) scLaw.nd rfl (Or.inl rfl) (pe_op op_cat (pv 5) (pe_lc (own := [("_law_place", 15)]) (g := gName 15) (tt := tYes) (by rfl) scLaw.nd (pi_range1 (by rfl) T.range_ (pa_cons (pv 6) pa_nil)) (blkOk_by (N := NLw) (sc := defScope sLaw) (by decide +kernel))
          (fun _ _ _ _ _ => pg_name (i := 15) scLaw.nd rfl (Or.inl rfl)) (fun _ _ _ _ _ => pts_nil)
          (fun _ _ _ _ _ => (pe_tup (pa_cons (pe_ix (ix_listK (K := K) rfl) (pv 2) (pv 15) (fun _ _ => rfl)) (pa_cons (pe_ix (ix_listK (K := K) rfl) (pv 2) (pv 6) (fun _ _ => rfl)) (pa_cons (pe_make (E := E0) G.M GI hr2 rfl G.mgC G.bI .nil pass0 (pa_cons (pe_lst (pa_cons (pe_ix (ix_listK (K := K) rfl) (pv 2) (pv 15) (fun _ _ => rfl)) (pa_cons (pe_ix (ix_listK (K := K) rfl) (pv 2) (pv 6) (fun _ _ => rfl)) pa_nil))) pa_nil)) pa_nil))))))))))
      (pss_cons (ps_set (i := 7) scLaw.nd rfl (Or.inl rfl) pe_int)
      (pss_cons (ps_for PassesOwn.never rfl (pi_range1 (by rfl) T.range_ (pa_cons pe_int pa_nil)) (pg_name (i := 8) scLaw.nd rfl (Or.inl rfl))
      (pss_cut (ps_asg (pe_tup (pa_cons (pe_prop (E := E0) (pv 4) R.cl VV.pO GO hr2 VV.bO .nil pass0 rfl) (pa_cons (pe_call GDraw hr1 rfl G.draw.M G.draw.F.kp G.draw.B .nil pass0 (pa_cons (pv 1) (pa_cons pe_int pa_nil))) (pa_cons (pe_call GPick hr2 rfl G.pick.M G.pick.F.kp G.pick.B .nil pass0 (pa_cons (pv 1) (pa_cons (pv 2) pa_nil))) pa_nil)))) (pg_tup rfl (pgs_cons (pg_name (i := 9) scLaw.nd rfl (Or.inl rfl)) (pgs_cons (pg_name (i := 10) scLaw.nd rfl (Or.inl rfl)) (pgs_cons (pg_name (i := 11) scLaw.nd rfl (Or.inr rfl)) pgs_nil)))))
      (pss_cut (ps_if (pt_cmpR op_notIn_seq (pv 11) (pv 9) rfl) (pss_cons (ps_expr (pe_meth (E := E0) (pv 4) R.cl G.mP GP hr1 G.bP .nil pass0 (pa_cons (pv 11) (pa_cons (pe_call GDraw hr1 rfl G.draw.M G.draw.F.kp G.draw.B .nil pass0 (pa_cons (pv 1) (pa_cons (pe_op op_add (pe_callB call_len_seq (by rfl) T.len_ PySem.boot_len (pa_cons (pv 9) pa_nil)) pe_int) pa_nil))) pa_nil))))
      (pss_one (ps_for PassesOwn.never rfl (pi_list (pv 9)) (pg_name (i := 12) scLaw.nd rfl (Or.inr rfl)) (pss_one (ps_expr (pe_bm PySem.F.plainAttrs_list PySem.F.slot_list_append PySem.F.type_list_append mt_append (pv 5) (pa_cons (pe_tup (pa_cons (pv 11) (pa_cons (pv 12) (pa_cons (pe_make (E := E0) G.M GI hr2 rfl G.mgC G.bI .nil pass0 (pa_cons (pe_lc (own := [("_law_one", 13)]) (g := gName 13) (by rfl) scLaw.nd (pi_list (pe_prop (E := E0) (pv 4) R.cl VV.pO GO hr2 VV.bO .nil pass0 rfl)) (blkOk_by (N := NLw) (sc := defScope sLaw) (by decide +kernel))
          (fun _ _ _ _ _ => pg_name (i := 13) scLaw.nd rfl (Or.inl rfl)) (fun _ _ _ _ _ => pts_one (pt_cmpR (op_inK (K := K) rfl) (pv 13) (pe_tup (pa_cons (pv 11) (pa_cons (pv 12) pa_nil))) rfl))
          (fun _ _ _ _ _ => pv 13)) pa_nil)) pa_nil)))) pa_nil)))))))
      (pss_one (ps_if (pt_cmpR op_eq (pv 10) pe_int (nomark _)) (pss_cons (ps_expr (pe_meth (E := E0) (pv 4) R.cl G.mD GD hr2 G.bD .nil pass0 (pa_cons (pv 11) pa_nil)))
      (pss_cons (ps_set (i := 7) scLaw.nd rfl (Or.inl rfl) (pe_op op_add (pv 7) (pe_callB (cr_sum rfl) (by rfl) G.sum_ boot_sum (pa_cons (pe_lc (own := [("_law_pair", 16)]) (g := gName 16) (by rfl) scLaw.nd (pi_list (pv 5)) (blkOk_by (N := NLw) (sc := defScope sLaw) (by decide +kernel))
          (fun _ _ _ _ _ => pg_name (i := 16) scLaw.nd rfl (Or.inl rfl)) (fun _ _ _ _ _ => pts_one (pt_cmpR (op_inK (K := K) rfl) (pv 11) (pe_slice (sl_tupK (K := K) rfl) (pv 16) po_none (po_some pe_int)) rfl))
          (fun _ _ _ _ _ => (pe_fldF (K := K) rfl (pe_ix (ix_tupK (K := K) rfl) (pv 16) pe_int (fun _ _ => rfl))))) pa_nil))))
      (pss_one (ps_setLc (i := 5) (own := [("_law_pair", 16)]) (g := gName 16) (by rfl) scLaw.nd rfl rfl (sw_true rfl rfl rfl (by decide +kernel)) (pi_list (pv 5)) (blkOk_by (N := NLw) (sc := defScope sLaw) (by decide +kernel))
          (fun _ _ _ _ _ => pg_name (i := 16) scLaw.nd rfl (Or.inl rfl)) (fun _ _ _ _ _ => pts_one (pt_cmpR (op_notInK (K := K) rfl) (pv 11) (pe_slice (sl_tupK (K := K) rfl) (pv 16) po_none (po_some pe_int)) rfl))
          (fun _ _ _ _ _ => pv 16)))))
      (pss_one (ps_if (PW.pt (pw_and (pt_cmpR op_lt (pv 10) pe_int (nomark _)) (pw_and1 (pt_cmpR op_gt (pe_callB call_len_seq (by rfl) T.len_ PySem.boot_len (pa_cons (pv 9) pa_nil)) pe_int (nomark _))))) (pss_cons (ps_expr (pe_meth (E := E0) (pv 4) R.cl VV.mE GE hr1 VV.bE .nil pass0 (pa_cons (pe_call GDraw hr1 rfl G.draw.M G.draw.F.kp G.draw.B .nil pass0 (pa_cons (pv 1) (pa_cons (pe_op op_sub (pe_callB call_len_seq (by rfl) T.len_ PySem.boot_len (pa_cons (pv 9) pa_nil)) pe_int) pa_nil))) pa_nil)))
      (pss_one (ps_expr (pe_call GMv hr3 rfl G.moved.M G.moved.F.kp G.moved.B .nil pass0 (pa_cons (pv 5) (pa_cons (pv 9) (pa_cons (pe_prop (E := E0) (pv 4) R.cl VV.pO GO hr2 VV.bO .nil pass0 rfl) (pa_cons pe_non (pa_cons pe_bl pa_nil))))))))) (pss_cons (ps_expr (pe_meth (E := E0) (pv 4) R.cl VV.mC GC hr2 VV.bC2 .nil pass0 (pa_cons (pv 11) (pa_cons (pe_call GDraw hr1 rfl G.draw.M G.draw.F.kp G.draw.B .nil pass0 (pa_cons (pv 1) (pa_cons (pe_op op_add (pe_bm PySem.F.plainAttrs_list PySem.F.slot_list_index PySem.F.type_list_index mt_index (pv 9) (pa_cons (pv 11) pa_nil)) pe_int) pa_nil))) pa_nil))))
      (pss_one (ps_expr (pe_call GMv hr3 rfl G.moved.M G.moved.F.kp G.moved.B .nil pass0 (pa_cons (pv 5) (pa_cons (pv 9) (pa_cons (pe_prop (E := E0) (pv 4) R.cl VV.pO GO hr2 VV.bO .nil pass0 rfl) (pa_cons (pv 11) (pa_cons pe_bl pa_nil))))))))))))))
      (pss_cut (ps_for PassesOwn.never rfl (pi_list (pv 5)) (pg_tup rfl (pgs_cons (pg_name (i := 13) scLaw.nd rfl (Or.inr rfl)) (pgs_cons (pg_name (i := 12) scLaw.nd rfl (Or.inr rfl)) (pgs_cons (pg_name (i := 14) scLaw.nd rfl (Or.inl rfl)) pgs_nil)))) (pss_one (ps_if (pt_not (pt_val (pe_call GSame hr2 rfl G.same.M G.same.F.kp G.same.B .nil pass0 (pa_cons (pe_prop (E := E0) (pv 14) R.cl VV.pO GO hr2 VV.bO .nil pass0 rfl) (pa_cons (pe_lc (own := [("_law_case", 17)]) (g := gName 17) (by rfl) scLaw.nd (pi_list (pe_prop (E := E0) (pv 4) R.cl VV.pO GO hr2 VV.bO .nil pass0 rfl)) (blkOk_by (N := NLw) (sc := defScope sLaw) (by decide +kernel))
          (fun _ _ _ _ _ => pg_name (i := 17) scLaw.nd rfl (Or.inl rfl)) (fun _ _ _ _ _ => pts_one (pt_cmpR (op_inK (K := K) rfl) (pv 17) (pe_tup (pa_cons (pv 13) (pa_cons (pv 12) pa_nil))) rfl))
          (fun _ _ _ _ _ => pv 17)) pa_nil))))) pss_never pss_nil)))
      (pss_one (ps_if (pt_not (pt_val (pe_call GSame hr2 rfl G.same.M G.same.F.kp G.same.B .nil pass0 (pa_cons (pe_fld (pv 4) rfl) (pa_cons (pe_op op_add (pv 7) (pe_callB (cr_sum rfl) (by rfl) G.sum_ boot_sum (pa_cons (pe_lc (own := [("_law_pair", 16)]) (g := gName 16) (tt := tYes) (by rfl) scLaw.nd (pi_list (pv 5)) (blkOk_by (N := NLw) (sc := defScope sLaw) (by decide +kernel))
          (fun _ _ _ _ _ => pg_name (i := 16) scLaw.nd rfl (Or.inl rfl)) (fun _ _ _ _ _ => pts_nil)
          (fun _ _ _ _ _ => (pe_fldF (K := K) rfl (pe_ix (ix_tupK (K := K) rfl) (pv 16) pe_int (fun _ _ => rfl))))) pa_nil))) pa_nil))))) pss_never pss_nil))))))
      (pss_one (ps_ret pe_bl))))))))), ?_⟩
    refine ⟨_, rfl, a, ns, rfl, hS, hlen, fun sa sl H1 S1 _ _ _ => ?_⟩
    -- the list and no pairs
    refine ⟨_, rfl, sa, sl, 0, 6, rfl, S1, by decide, by decide, fun PL pool H2 hP hPl hPn hPo Pa Pl_ _ S2 _ => ?_⟩
    refine ⟨_, rfl, sa, sl, _, 5, rfl, S2, by decide, by decide, sm48 (by decide) (by decide), fun r H3 r0 r1 S3 k3 => ⟨_, _, rfl, rfl, ?_⟩⟩
    have hP3 := k3 _ _ Pa Pl_ hP
    clear S1 hS hlen S2 k3 hP
    obtain ⟨m, em⟩ : ∃ m : Nat, 2 + r = (m : Int) := ⟨(2 + r).toNat, by omega⟩
    have m6 : m ≤ 6 := by omega
    have hml : (pool.take m).length = m := by rw [List.length_take]; omega
    have ndm : (pool.take m).Nodup := hPn.sublist (List.take_sublist ..)
    refine ⟨fun σ' H' => ∃ gp gdx gN PR, σ' = [some (.ref a), some (.ref sa), some (.ref PL), some (.int (m : Int)), some (.ref gp), some (.ref PR), none, none, none, none, none, none, none, none, none, none, none, none] ∧ LV C H' sa sl PL PR gp gdx gN pool (pool.take m) 0 [] [] 15, ?_, ?_⟩
    · refine ⟨_, rfl, _, rfl, (2 + r), rfl, PL, _, rfl, SqL.of hP3, fun q hq => ?_⟩
      rw [em, cut_pre, show (tx pool).take m = tx (pool.take m) from List.map_take.symm]
      have sq := new_ (o := .lst (tx (pool.take m))) hq
      have S4 := S3.same sq
      have hP4 := sq _ _ hP3
      intro x dx nx ndx nex
      refine mk_riv (G := q) (ss := pool.take m) (.inl (SqL.of upd_same)) ndm (by omega) nx ndx nex fun N H5 s5 rv N0 => ⟨rfl, Nat.zero_le _, fun PR hPR => ⟨_, _, rfl, x, dx, N, PR, (by rw [← em]; rfl), ?_⟩⟩
      have sp := new_ (o := .lst []) hPR
      have S5 := S4.same s5
      have S6 := S5.same sp
      have ne : ∀ {c : Addr} {o : HO}, H5 c = some o → c ≠ PR := fun {c o} z y => by rw [y, hPR] at z; cases z
      obtain ⟨Na, Nl⟩ := S4.ne N0
      obtain ⟨Ra, Rl⟩ := S5.ne hPR
      exact { st := S6, hP := sp _ _ (s5 _ _ hP4), gr := ⟨sp _ _ rv.1, sp _ _ rv.2.1, rv.2.2⟩, pr := upd_same, ea := Ea.nil, re := fun e he => (List.not_mem_nil he).elim, sep := (fun i j e e' h1 => by simp at h1), pa := ⟨Pa, Pl_⟩, ra := ⟨Ra, Rl⟩, ga := ⟨Na, Nl⟩, rp := (ne (s5 _ _ hP4)).symm, gP := (fun y => by rw [y, hP4] at N0; cases N0), gR := ne rv.2.1, eN := fun e he => (List.not_mem_nil he).elim, eP := fun e he => (List.not_mem_nil he).elim }
    rintro _ H4 ⟨gp, gdx, gN, PR0, rfl, lv0⟩
    clear S3 hP3
    -- the pairs
    refine ⟨fun σ' H' => ∃ x6 PR refs es, σ' = [some (.ref a), some (.ref sa), some (.ref PL), some (.int (m : Int)), some (.ref gp), some (.ref PR), x6, none, none, none, none, none, none, none, none, none, none, none] ∧ LV C H' sa sl PL PR gp gdx gN pool (pool.take m) 0 refs es 15 ∧ LPu pool (pool.take m) es 0 0 ∧ es.length ≤ 100, ?_, ?_⟩
    · refine ⟨_, rfl, (m : Int), rfl, by omega, by omega, ?_⟩
      refine for_range (n := ((m : Int)).toNat) (fun i σ' H' => ∃ x6 PR refs es, σ' = [some (.ref a), some (.ref sa), some (.ref PL), some (.int (m : Int)), some (.ref gp), some (.ref PR), x6, none, none, none, none, none, none, none, none, none, none, none] ∧ LV C H' sa sl PL PR gp gdx gN pool (pool.take m) 0 refs es 15 ∧
        RV.Cov (pool.take i) (es.map key) ∧ (∀ e ∈ es, e.nm = RV.ord2 (pool.take m) (key e) ∧ e.c = 0) ∧ es.length ≤ 10 * i) ?_ ?_ ?_
      · exact ⟨none, PR0, [], [], rfl, lv0, RV.Cov.nil, fun e he => (List.not_mem_nil he).elim, by simp⟩
      · rintro i _ H5 hi ⟨x6, PR, refs, es, rfl, lv, cov, hes, hel⟩
        have him : i < m := by omega
        have hb := List.getElem?_eq_getElem (l := pool) (i := i) (by omega)
        generalize pool[i] = b at hb
        have hbm : b ∉ pool.take i := fun h => by
          have h2 : (pool.take (i + 1)).Nodup := hPn.sublist (List.take_sublist ..)
          rw [L2.take_succ' hb] at h2
          exact (List.nodup_append.mp h2).2.2 b h b (List.mem_singleton.mpr rfl) rfl
        rw [Int.zero_add]
        refine ⟨_, rfl, _, rfl, (i : Int), rfl, by omega, by omega, fun Dd hD => ?_⟩
        refine lc_range (n := ((i : Int)).toNat) (fun j H' => Same H5 H' ∧ ∃ acc ne, H' Dd = some (.lst acc) ∧ Ea H' isTr3 acc ne ∧ ne.map key = (pool.take j).map (fun o => (o, b)) ∧ (∀ e ∈ ne, RivE C H' e ∧ H5 e.p = none ∧ H5 e.N = none ∧ e.N ≠ Dd ∧ e.c = 0 ∧ e.nm = [e.x, e.y]) ∧ Sep ne)
          ⟨new_ hD, [], [], upd_same, Ea.nil, rfl, fun e he => (List.not_mem_nil he).elim, fun i j e e' h1 => by simp at h1⟩ ?_ ?_
        · rintro j H6 hj ⟨s6, acc, ne, hd, hea, hk, hall, hsep⟩
          have hji : j < i := by omega
          have ho := List.getElem?_eq_getElem (l := pool) (i := j) (by omega)
          generalize pool[j] = o at ho
          have hom : o ∈ pool.take i := List.mem_of_getElem? (i := j) (by rw [List.getElem?_take_of_lt hji]; exact ho)
          have hob : o ≠ b := fun e => hbm (e ▸ hom)
          rw [Int.zero_add]
          refine ⟨rfl, ?_⟩
          dsimp only [tYes]
          rw [if_pos rfl]
          have hP6 := SqL.of (K := K) (s6 _ _ lv.hP)
          have at1 : atI (tx pool) (j : Int) = some (.str o) := atI_nat (by rw [List.getElem?_map, ho]; rfl)
          have at2 : atI (tx pool) (i : Int) = some (.str b) := atI_nat (by rw [List.getElem?_map, hb]; rfl)
          refine ⟨_, rfl, _, rfl, PL, _, (j : Int), _, rfl, rfl, hP6, at1, _, rfl, _, rfl, PL, _, (i : Int), _, rfl, rfl, hP6, at2, _, rfl, _, rfl, PL, _, (j : Int), _, rfl, rfl, hP6, at1, _, rfl, _, rfl, PL, _, (i : Int), _, rfl, rfl, hP6, at2, by show 2 ≤ sizeLine; decide, fun g hg => ?_⟩
          have sg := new_ (o := .lst (tx [o, b])) hg
          intro x dx nx ndx nex
          refine mk_riv (G := g) (ss := [o, b]) (.inl (SqL.of upd_same)) (by simp [hob]) (by show 2 ≤ 60; decide) nx ndx nex fun N H7 s7 rv N0 => ⟨rfl, by show 3 ≤ sizeLine; decide, fun t ht => ?_⟩
          have st := new_ (o := .tup [V.str o, .str b, .ref x]) ht
          have sA := sg.trans (s7.trans st)
          have hdA := sA _ _ hd
          have gt : (upd H7 t (.tup [V.str o, .str b, .ref x])) t = some (.tup [V.str o, .str b, .ref x]) := upd_same
          have rv2 : RivAt C (upd H7 t (.tup [V.str o, .str b, .ref x])) x dx N [o, b] 0 := ⟨st _ _ rv.1, st _ _ rv.2.1, rv.2.2⟩
          have x0 : H6 x = none := L2.Same.none sg nx
          have N6 : H6 N = none := L2.Same.none sg N0
          generalize (upd H7 t (.tup [V.str o, .str b, .ref x])) = H8 at sA hdA gt rv2 ⊢
          have al : acc.length = j := by
            rw [hea.1]
            have := congrArg List.length hk
            rw [List.length_map, List.length_map, List.length_take] at this
            omega
          have nd_ : ∀ {c : Addr} {xs : List V}, H8 c = some (.tup xs) → c ≠ Dd := fun z => ne_of z hdA (by intro y; cases y)
          have ni_ : ∀ {c C dx : Addr} {fs : List (Str × V)}, H8 c = some (.ins C dx fs) → c ≠ Dd := fun z => ne_of z hdA (by intro y; cases y)
          have NDd : N ≠ Dd := fun y => by rw [y, hd] at N6; cases N6
          refine ⟨acc, hdA, by rw [al]; exact Nat.lt_of_lt_of_le (by omega : j < 6) (by decide), ?_, acc ++ [.ref t], ne ++ [⟨o, b, x, dx, N, [o, b], 0⟩], upd_same, ?_, ?_, ?_, ?_⟩
          · intro c ob z
            rw [upd_ne (ne_of_none z hD)]
            exact sA _ _ (s6 _ _ z)
          · refine Ea.push (hea.imp fun c e q => ?_) ?_
            · show (upd H8 Dd _) c = _
              have q8 := sA _ _ q
              rw [upd_ne (nd_ q8)]
              exact q8
            · show (upd H8 Dd _) t = _
              rw [upd_ne (nd_ gt)]
              exact gt
          · rw [List.map_append, hk, L2.take_succ' ho, List.map_append]
            rfl
          · intro e he
            rcases List.mem_append.mp he with he | he
            · obtain ⟨w1, w2, w3, w4, w5, w6⟩ := hall e he
              exact ⟨RivE.of w1 (fun ob z => by rw [upd_ne (ni_ (sA _ _ w1.1))]; exact sA _ _ z) fun ob z => by rw [upd_ne w4]; exact sA _ _ z, w2, w3, w4, w5, w6⟩
            · cases List.mem_singleton.mp he
              exact ⟨⟨by rw [upd_ne (ni_ rv2.1)]; exact rv2.1, by rw [upd_ne NDd]; exact rv2.2.1, rv2.2.2⟩, L2.Same.none s6 x0, L2.Same.none s6 N6, NDd, rfl, rfl⟩
          · refine sep_snoc hsep fun d hd' => ?_
            obtain ⟨w1, _⟩ := hall d hd'
            exact ⟨(fun y => by have := w1.1; rw [show d.p = x from y, x0] at this; cases this), (fun y => by have := w1.2.1; rw [show d.N = N from y, N6] at this; cases this)⟩
        · rintro H6 ⟨s6, acc, ne, hd, hea, hk, hall, hsep⟩
          have hii : ((i : Int)).toNat = i := by omega
          rw [hii] at hk
          have nel : ne.length = i := by
            have := congrArg List.length hk
            rw [List.length_map, List.length_map, List.length_take] at this
            omega
          have rl : refs.length = es.length := lv.ea.1
          have acl : acc.length = ne.length := hea.1
          refine ⟨PR, Dd, refs, acc, rfl, rfl, s6 _ _ lv.pr, hd, Nat.le_trans (by omega : refs.length + acc.length ≤ 106) (by decide), fun q hq => ⟨_, q, refs ++ acc, es ++ ne, rfl, ?_, ?_, ?_, by rw [List.length_append]; omega⟩⟩
          · have sq := new_ (o := .lst (refs ++ acc)) hq
            have s7 := s6.trans sq
            have nq : ∀ {c : Addr} {ob : HO}, H6 c = some ob → c ≠ q := fun {c ob} z y => by rw [y, hq] at z; cases z
            refine lv.newR s7 upd_same (L2.Same.none s6 hq) ((lv.ea.imp fun c e w => s7 _ _ w).append (hea.imp fun c e w => sq _ _ w)) (fun e he => ?_) (sep_app lv.sep hsep fun d hd1 e he => ?_) fun e he => ?_
            · rcases List.mem_append.mp he with he | he
              · exact RivE.of (lv.re e he) (fun _ z => s7 _ _ z) fun _ z => s7 _ _ z
              · exact RivE.of (hall e he).1 (fun _ z => sq _ _ z) fun _ z => sq _ _ z
            · obtain ⟨_, w2, w3, _⟩ := hall e he
              have := lv.re d hd1
              exact ⟨(fun y => by have z := this.1; rw [y, w2] at z; cases z), (fun y => by have z := this.2.1; rw [y, w3] at z; cases z)⟩
            · rcases List.mem_append.mp he with he | he
              · exact .inl he
              · obtain ⟨w1, w2, w3, _⟩ := hall e he
                exact .inr ⟨w2, w3, nq w1.2.1⟩
          · rw [L2.take_succ' hb, List.map_append]
            have := RV.Cov.put (A := pool.take i) (B := []) (m := b) (ks := es.map key) (new := ne.map key) (by rw [List.append_nil]; exact cov) (by rw [List.append_nil]; exact hbm) (.inr (by rw [List.append_nil]; exact hk))
            exact this
          · intro e he
            rcases List.mem_append.mp he with he | he
            · exact hes e he
            · obtain ⟨_, _, _, _, w5, w6⟩ := hall e he
              refine ⟨?_, w5⟩
              have hkm : key e ∈ (pool.take i).map (fun o => (o, b)) := by rw [← hk]; exact List.mem_map.mpr ⟨e, he, rfl⟩
              obtain ⟨o, ho, hko⟩ := List.mem_map.mp hkm
              rw [w6]
              have hx : e.x = o := (congrArg Prod.fst hko).symm
              have hy : e.y = b := (congrArg Prod.snd hko).symm
              show _ = RV.ord2 (pool.take m) (e.x, e.y)
              rw [hx, hy]
              exact (ord2_ij ndm (i := i) (by rw [List.getElem?_take_of_lt him]; exact hb) (by rw [List.take_take, Nat.min_eq_left (by omega)]; exact ho)).symm
      · rintro σ' H5 ⟨x6, PR, refs, es, rfl, lv, cov, hes, hel⟩
        have hmm : ((m : Int)).toNat = m := by omega
        rw [hmm] at cov hel
        refine ⟨x6, PR, refs, es, rfl, lv, ⟨fun s hs => List.mem_of_mem_take hs, cov, fun e he => (hes e he).1, ?_⟩, by omega⟩
        rw [RV.tot_zero fun e he => (hes e he).2]
        rfl
    rintro _ H5 ⟨x6, PR0', refs0, es0, rfl, lv5, pu5, hel5⟩
    clear lv0
    refine ⟨_, rfl, by omega, by omega, ?_⟩
    refine for_range (n := 20) (fun i σ' H' => ∃ PR gs gc go refs es n x6 x8 x9 x10 x11 x12 x13 x14, σ' = [some (.ref a), some (.ref sa), some (.ref PL), some (.int (m : Int)), some (.ref gp), some (.ref PR), x6, some (.int go), x8, x9, x10, x11, x12, x13, x14, none, none, none] ∧ LV C H' sa sl PL PR gp gdx gN pool gs gc refs es n ∧ LPu pool gs es gc go ∧ gs.length ≤ 6 + i ∧ es.length ≤ 100 + 40 * i ∧ n ≤ 15 + 4 * i) ?_ ?_ ?_
    · exact ⟨PR0', pool.take m, 0, 0, refs0, es0, 15, x6, none, none, none, none, none, none, none, rfl, lv5, pu5, by omega, by omega, by omega⟩
    · clear lv5 pu5 hel5
      rintro i _ H6 hi ⟨PR, gs, gc, go, refs, es, n, x6, x8, x9, x10, x11, x12, x13, x14, rfl, lv, pu, hgl, hel, hn⟩
      -- the names, the kind, the name
      refine ⟨fun σ' H' => ∃ NM kd nm n', σ' = [some (.ref a), some (.ref sa), some (.ref PL), some (.int (m : Int)), some (.ref gp), some (.ref PR), x6, some (.int go), some (.int (0 + (i : Int))), some (.ref NM), some (.int kd), some (.str nm), x12, x13, x14, none, none, none] ∧ LV C H' sa sl PL PR gp gdx gN pool gs gc refs es n' ∧ n' ≤ n + 2 ∧ nm ∈ pool ∧ 0 ≤ kd ∧ H' NM = some (.lst (tx gs)) ∧ (NM ≠ sa ∧ NM ≠ sl) ∧ NM ≠ gN ∧ NM ≠ PR ∧ (∀ e ∈ es, NM ≠ e.N), ?_, ?_⟩
      · refine ⟨_, rfl, gp, gdx, _, rfl, lv.gr.1, gp, gdx, gN, gs, gc, rfl, lv.gr, fun NM hNM => ?_⟩
        have sq := new_ (o := .lst (tx gs)) hNM
        have lvA := lv.same sq
        have gNM : (upd H6 NM (.lst (tx gs))) NM = some (.lst (tx gs)) := upd_same
        obtain ⟨Na, Nl⟩ := lv.st.ne hNM
        have ne : ∀ {c : Addr} {ob : HO}, H6 c = some ob → NM ≠ c := fun {c ob} z y => by rw [← y, hNM] at z; cases z
        generalize (upd H6 NM (.lst (tx gs))) = H7 at sq lvA gNM ⊢
        refine ⟨_, rfl, sa, sl, n, 6, rfl, lvA.st, by omega, by decide, sm48 (by decide) (by decide), fun kd H8 k0 k1 S8 kp8 => ?_⟩
        have lvB := lvA.kept S8 kp8
        refine ⟨_, rfl, _, rfl, sa, sl, PL, _, tx pool, rfl, S8, by omega, lvB.hP, Pa, Pl_, by rw [List.length_map]; omega, by rw [List.length_map]; omega, fun ix x H9 hx S9 kp9 => ⟨by show 3 ≤ sizeLine; decide, fun tp htp => ?_⟩⟩
        have lvC := (lvB.kept S9 kp9)
        rw [List.getElem?_map, Option.map_eq_some_iff] at hx
        obtain ⟨nm, hx, rfl⟩ := hx
        have st := new_ (o := .tup [.ref NM, .int kd, .str nm]) htp
        refine ⟨tp, _, rfl, SqT.of upd_same, rfl, _, _, rfl, _, _, rfl, _, _, rfl, rfl, NM, kd, nm, _, rfl, lvC.same st, by omega, List.mem_of_getElem? hx, k0, st _ _ (kp9 _ _ Na Nl (kp8 _ _ Na Nl gNM)), ⟨Na, Nl⟩, ne lv.gr.2.1, ne lv.pr, fun e he => ne (lv.re e he).2.1⟩
      clear lv
      rintro _ H7 ⟨NM, kd, nm, n1, rfl, lv, hn1, hnm, k0, hNM, ⟨Na, Nl⟩, NgN, NPR, hNMe⟩
      have lN : (tx gs).length = gs.length := List.length_map ..
      -- the move
      refine ⟨fun σ' H' => ∃ PR gs gc go refs es n x9 x10 x11 x12 x13 x14, σ' = [some (.ref a), some (.ref sa), some (.ref PL), some (.int (m : Int)), some (.ref gp), some (.ref PR), x6, some (.int go), some (.int (0 + (i : Int))), x9, x10, x11, x12, x13, x14, none, none, none] ∧ LV C H' sa sl PL PR gp gdx gN pool gs gc refs es n ∧ LPu pool gs es gc go ∧ gs.length ≤ 6 + (i + 1) ∧ es.length ≤ 100 + 40 * (i + 1) ∧ n ≤ 15 + 4 * (i + 1), ?_, ?_⟩
      · refine ⟨_, rfl, _, rfl, NM, _, rfl, .inl (SqL.of hNM), rfl, tx_flat _, _, rfl, ?_⟩
        show ite ((!inV (V.str nm) (tx gs)) = true) _ _
        rw [inV_tx]
        by_cases hm : nm ∈ gs
        · rw [decide_eq_true hm]
          refine iteF ?_
          obtain ⟨j, hj⟩ := List.getElem?_of_mem hm
          have jl := (List.getElem?_eq_some_iff.mp hj).1
          refine ⟨_, rfl, rfl, _, rfl, ifD_2 (fun _ => ?_) (fun _ => ?_)⟩
          · -- dropped
            refine ⟨_, rfl, gp, gdx, _, rfl, lv.gr.1, fR_no _ _ (by decide +kernel) (by decide +kernel), _, rfl, gp, gdx, gN, gs, gc, nm, j, rfl, lv.gr, hj, ?_⟩
            have hgl2 : (gs.eraseIdx j).length ≤ gs.length := List.length_eraseIdx_le ..
            have lvA := lv.setN (gs2 := gs.eraseIdx j) (nodup_erase lv.gr.2.2.1) (Nat.le_trans hgl2 lv.gr.2.2.2)
            have pu2 := pu_drop pu hj
            generalize (upd H7 gN (.lst (tx (gs.eraseIdx j)))) = H8 at lvA ⊢
            refine ⟨_, rfl, ?_⟩
            refine ⟨_, rfl, PR, rfl, ⟨_, SqL.of lvA.pr⟩, fun Dd hD => ?_⟩
            refine lc_list (K := K) (a := PR) (xs := refs) (fun j H' => Same H8 H' ∧ H' Dd = some (.lst ((((es.take j).filter (fun e : En => decide (nm = e.x) || decide (nm = e.y))).map fun e => e.c).map V.int))) ⟨new_ hD, upd_same⟩ (fun j H' _ q => SqL.of (q.1 _ _ lvA.pr)) ?_ ?_
            · rintro j z HZ hz ⟨s2, hd⟩
              obtain ⟨c, e, rfl, he, hc⟩ := lvA.ea.at_ hz
              have hem := List.mem_of_getElem? he
              have hjl : j < es.length := (List.getElem?_eq_some_iff.mp he).1
              have htk := L2.take_succ' he
              refine ⟨rfl, ?_⟩
              refine ⟨_, rfl, _, rfl, 2, rfl, c, _, rfl, SqT.of (s2 _ _ hc), by show ¬ (HT.sIx 3 0 none = 0 ∧ HT.sIx 3 3 (some 2) = 3); decide, fun p2 hp2 => ?_⟩
              have ec : cutV [V.str e.x, .str e.y, .ref e.p] none (some 2) = tx [e.x, e.y] := rfl
              rw [ec]
              have st := new_ (o := .tup (tx [e.x, e.y])) hp2
              have s3 := s2.trans st
              have hd3 := st _ _ hd
              refine ⟨p2, _, rfl, .inr (SqT.of upd_same), rfl, tx_flat _, _, rfl, ?_⟩
              show ite (inV (V.str nm) (tx [e.x, e.y]) = true) _ _
              rw [inV_tx, show decide (nm ∈ [e.x, e.y]) = (decide (nm = e.x) || decide (nm = e.y)) by simp]
              generalize (upd HZ p2 (.tup (tx [e.x, e.y]))) = HY at s3 hd3 ⊢
              cases hb : (decide (nm = e.x) || decide (nm = e.y)) with
              | false =>
                rw [if_neg (by decide)]
                refine ⟨s3, ?_⟩
                rw [htk, List.filter_append, List.filter_cons, hb, if_neg (by decide), List.filter_nil, List.append_nil]
                exact hd3
              | true =>
                rw [if_pos rfl]
                have re := RivE.of (lvA.re e hem) (fun _ z => s3 _ _ z) fun _ z => s3 _ _ z
                refine ⟨_, rfl, c, _, 2, .ref e.p, rfl, rfl, SqT.of (s3 _ _ hc), rfl, e.p, C, e.dx, _, _, rfl, re.1, R.cl, R.nC, fR_cost _ _, _, hd3, ?_, ?_, ?_⟩
                · rw [List.length_map, List.length_map]
                  have := List.length_filter_le (fun e : En => decide (nm = e.x) || decide (nm = e.y)) (es.take j)
                  rw [List.length_take] at this
                  exact Nat.lt_of_le_of_lt (by omega : _ ≤ 1000) (by decide)
                · intro d o ed
                  rw [upd_ne (ne_of_none ed hD)]
                  exact s3 _ _ ed
                · rw [upd_same, htk, List.filter_append, List.filter_cons, hb, if_pos rfl, List.filter_nil, List.map_append, List.map_append]
                  rfl
            · rintro HZ ⟨s2, hd⟩
              rw [lvA.ea.1, List.take_length] at hd
              refine ⟨Dd, _, rfl, SqL.of hd, _, _, rfl, rfl, ?_⟩
              rw [tot_sum]
              have lvB := lvA.same s2
              clear hd hD s2 lvA
              refine ⟨_, rfl, PR, rfl, ⟨_, SqL.of lvB.pr⟩, fun De hDe => ?_⟩
              refine lc_list (K := K) (a := PR) (xs := refs) (fun j H' => Same HZ H' ∧ ∃ acc, H' De = some (.lst acc) ∧ Ea H' isTr3 acc ((es.take j).filter fun e => !(decide (nm = e.x) || decide (nm = e.y)))) ⟨new_ hDe, [], upd_same, Ea.nil⟩ (fun j H' _ q => SqL.of (q.1 _ _ lvB.pr)) ?_ ?_
              · rintro j z HY hz ⟨s2, acc, hd, hea⟩
                obtain ⟨c, e, rfl, he, hc⟩ := lvB.ea.at_ hz
                have hjl : j < es.length := (List.getElem?_eq_some_iff.mp he).1
                have htk := L2.take_succ' he
                refine ⟨rfl, ?_⟩
                refine ⟨_, rfl, _, rfl, 2, rfl, c, _, rfl, SqT.of (s2 _ _ hc), by show ¬ (HT.sIx 3 0 none = 0 ∧ HT.sIx 3 3 (some 2) = 3); decide, fun p2 hp2 => ?_⟩
                have ec : cutV [V.str e.x, .str e.y, .ref e.p] none (some 2) = tx [e.x, e.y] := rfl
                rw [ec]
                have st := new_ (o := .tup (tx [e.x, e.y])) hp2
                have s3 := s2.trans st
                have hd3 := st _ _ hd
                have hea3 := hea.imp fun c e q => (show isTr3 _ c e from st _ _ q)
                refine ⟨p2, _, rfl, .inr (SqT.of upd_same), rfl, tx_flat _, _, rfl, ?_⟩
                show ite ((!inV (V.str nm) (tx [e.x, e.y])) = true) _ _
                rw [inV_tx, show decide (nm ∈ [e.x, e.y]) = (decide (nm = e.x) || decide (nm = e.y)) by simp]
                generalize (upd HY p2 (.tup (tx [e.x, e.y]))) = HX at s3 hd3 hea3 ⊢
                cases hb : (decide (nm = e.x) || decide (nm = e.y)) with
                | true =>
                  rw [if_neg (by decide)]
                  refine ⟨s3, acc, hd3, ?_⟩
                  rw [htk, List.filter_append, List.filter_cons, hb, if_neg (by decide), List.filter_nil, List.append_nil]
                  exact hea3
                | false =>
                  rw [if_pos (by decide)]
                  refine ⟨_, rfl, acc, hd3, ?_, ?_, acc ++ [.ref c], upd_same, ?_⟩
                  · rw [hea3.1]
                    have := List.length_filter_le (fun e : En => !(decide (nm = e.x) || decide (nm = e.y))) (es.take j)
                    rw [List.length_take] at this
                    exact Nat.lt_of_le_of_lt (by omega : _ ≤ 1000) (by decide)
                  · intro d o ed
                    rw [upd_ne (ne_of_none ed hDe)]
                    exact s3 _ _ ed
                  · rw [htk, List.filter_append, List.filter_cons, hb, if_pos (by decide), List.filter_nil]
                    have nt : ∀ {c : Addr} {xs : List V}, HX c = some (.tup xs) → c ≠ De := fun z => ne_of z hd3 (by intro y; cases y)
                    refine Ea.push (hea3.imp fun c e q => ?_) ?_
                    · show (upd HX De _) c = _
                      rw [upd_ne (nt q)]
                      exact q
                    · have q := s3 _ _ hc
                      show (upd HX De _) c = _
                      rw [upd_ne (nt q)]
                      exact q
              · rintro HY ⟨s2, acc, hd, hea⟩
                rw [lvB.ea.1, List.take_length] at hea
                have sub : ∀ e ∈ es.filter (fun e => !(decide (nm = e.x) || decide (nm = e.y))), e ∈ es := fun e he => (List.mem_filter.mp he).1
                refine ⟨De, _, gc, _, acc, _, n1, _, _, _, x12, x13, x14, rfl, lvB.newR s2 hd hDe hea (fun e he => RivE.of (lvB.re e (sub e he)) (fun _ z => s2 _ _ z) fun _ z => s2 _ _ z) (sep_filter lvB.sep _) fun e he => .inl (sub e he), pu2, by omega, ?_, by omega⟩
                have := List.length_filter_le (fun e : En => !(decide (nm = e.x) || decide (nm = e.y))) es
                omega
          · refine ⟨_, rfl, _, _, rfl, rfl, _, rfl, ifD_2 (fun _ => ?_) (fun _ => ?_)⟩
            · refine ⟨_, rfl, NM, _, rfl, .inl (SqL.of hNM), ?_⟩
              rw [lN]
              refine ⟨_, _, rfl, rfl, _, rfl, ifD_2 (fun g2 => ?_) (fun _ => ?_)⟩
              · -- exchanged
                have g3 : 1 < gs.length := by omega
                refine ⟨_, rfl, gp, gdx, _, rfl, lv.gr.1, fR_no _ _ (by decide +kernel) (by decide +kernel), _, rfl, _, rfl, NM, _, rfl, .inl (SqL.of hNM), ?_⟩
                rw [lN]
                refine ⟨_, _, rfl, rfl, sa, sl, n1, _, rfl, lv.st, by omega, by omega, sm48 (by omega) (by omega), fun r H8 r0 r1 S8 kp8 => ?_⟩
                have lvA := lv.kept S8 kp8
                have hNM8 := kp8 _ _ Na Nl hNM
                have er : r = ((r.toNat : Nat) : Int) := (Int.toNat_of_nonneg r0).symm
                have hr1 : r.toNat + 1 < gs.length := by omega
                generalize r.toNat = k at er hr1
                subst er
                have hs := List.getElem?_eq_getElem (l := gs) (i := k) (by omega)
                have ht := List.getElem?_eq_getElem (l := gs) (i := k + 1) hr1
                generalize gs[k] = s at hs
                generalize gs[k + 1] = t at ht
                obtain ⟨es', hl', hact', pu'⟩ := pu_exch pu hs ht
                have nd2 := pu'.cov.nd
                have l2 : ((gs.set k t).set (k + 1) s).length = gs.length := by simp
                refine ⟨gp, gdx, gN, gs, gc, k, s, t, rfl, lvA.gr, hs, ht, fun HF sF => ?_⟩
                have lvG := ((lvA.same sF).setN (gs2 := (gs.set k t).set (k + 1) s) nd2 (by rw [l2]; exact lv.gr.2.2.2)).setC (gc + 1)
                have hNMG : (upd (upd HF gN (.lst (tx ((gs.set k t).set (k + 1) s)))) gp (.ins C gdx (fR gN (gc + 1)))) NM = some (.lst (tx gs)) := by
                  rw [upd_ne (ne_of (sF _ _ hNM8) (sF _ _ lvA.gr.1) (by intro y; cases y)), upd_ne NgN]
                  exact sF _ _ hNM8
                generalize (upd (upd HF gN (.lst (tx ((gs.set k t).set (k + 1) s)))) gp (.ins C gdx (fR gN (gc + 1)))) = HG at lvG hNMG ⊢
                generalize hg2 : (gs.set k t).set (k + 1) s = gs2 at *
                generalize hc2 : gc + 1 = gc2 at *
                refine ⟨_, rfl, _, rfl, _, rfl, gp, gdx, _, rfl, lvG.gr.1, gp, gdx, gN, gs2, gc2, rfl, lvG.gr, fun OR hOR => ?_⟩
                have sO := new_ (o := .lst (tx gs2)) hOR
                have lvH := lvG.same sO
                have gO : (upd HG OR (.lst (tx gs2))) OR = some (.lst (tx gs2)) := upd_same
                have nO : ∀ {c : Addr} {ob : HO}, HG c = some ob → OR ≠ c := fun {c ob} z y => by rw [← y, hOR] at z; cases z
                have hNMG2 := sO _ _ hNMG
                generalize (upd HG OR (.lst (tx gs2))) = HH at sO lvH gO hNMG2 ⊢
                refine ⟨PR, NM, OR, _, _, refs, es, es', gs, gs2, rfl, lvH.pr, lvH.ea, lvH.re, lvH.sep, hNMG2, fun e he => ⟨(pu.cov.ne _ (List.mem_map.mpr ⟨e, he, rfl⟩)).2.1, (pu.cov.ne _ (List.mem_map.mpr ⟨e, he, rfl⟩)).2.2⟩, gO, lvG.gr.2.2.2, lvG.gr.2.2.1, fun s hs => hPo s (pu'.sub s hs), fun e he s hs => ?_, fun e he => ⟨fun y => (lvH.eN e he).2.2.1 y.symm, hNMe e he, nO (lvG.re e he).2.1⟩, hl', fun k e e' h1 h2 => ?_, fun HI hI kpI => ?_⟩
                · rw [pu.ord e he] at hs
                  exact hPo s (pu.sub s (List.mem_filter.mp hs).1)
                · obtain ⟨w1, w2⟩ := hact' k e e' h1 h2
                  exact ⟨w1, by rw [w2]; exact ord2_nodup lvG.gr.2.2.1 _, by rw [w2]; exact Nat.le_trans (ord2_len _ _) lvG.gr.2.2.2⟩
                · exact ⟨PR, gs2, gc2, go, refs, es', _, _, _, _, x12, x13, x14, rfl, lvH.moved hl' (fun k e e' h1 h2 => act_id (hact' k e e' h1 h2).1) hI kpI, pu', by omega, by omega, by omega⟩
              · -- called
                obtain ⟨i1, i2, i3⟩ := idx_ok lv.gr.2.2.1 hj
                refine ⟨_, rfl, gp, gdx, _, rfl, lv.gr.1, fR_no _ _ (by decide +kernel) (by decide +kernel), _, rfl, _, rfl, _, rfl, .inl ⟨rfl, _, SqL.of hNM⟩, _, rfl, NM, _, .str nm, j, .str nm, rfl, rfl, SqL.of hNM, rfl, tx_flat _, i1, i2, i3, _, _, rfl, rfl, sa, sl, n1, _, rfl, lv.st, by omega, by omega, sm48 (by omega) (by omega), fun r H8 r0 r1 S8 kp8 => ?_⟩
                have lvA := lv.kept S8 kp8
                have hNM8 := kp8 _ _ Na Nl hNM
                have er : r = ((r.toNat : Nat) : Int) := (Int.toNat_of_nonneg r0).symm
                have kj : r.toNat ≤ j := by omega
                generalize r.toNat = k at er kj
                subst er
                obtain ⟨es', hl', hact', pu'⟩ := pu_call pu hj kj
                have nd2 := pu'.cov.nd
                have l2 : ((gs.eraseIdx j).take k ++ [nm] ++ (gs.eraseIdx j).drop k).length = gs.length := by
                  have h1 : (gs.eraseIdx j).length + 1 = gs.length := by rw [List.length_eraseIdx_of_lt jl]; omega
                  have h2 : (gs.eraseIdx j).take k ++ (gs.eraseIdx j).drop k = gs.eraseIdx j := List.take_append_drop k _
                  have h3 := congrArg List.length h2
                  rw [List.length_append] at h3
                  rw [List.length_append, List.length_append, List.length_singleton]
                  omega
                refine ⟨gp, gdx, gN, gs, gc, nm, j, .int (k : Nat), rfl, lvA.gr, hj, .inr ⟨k, rfl, kj, ?_⟩⟩
                have lvG := (lvA.setN (gs2 := (gs.eraseIdx j).take k ++ [nm] ++ (gs.eraseIdx j).drop k) nd2 (by rw [l2]; exact lv.gr.2.2.2)).setC (gc + j)
                have hNMG : (upd (upd H8 gN (.lst (tx ((gs.eraseIdx j).take k ++ [nm] ++ (gs.eraseIdx j).drop k)))) gp (.ins C gdx (fR gN (gc + j)))) NM = some (.lst (tx gs)) := by
                  rw [upd_ne (ne_of hNM8 lvA.gr.1 (by intro y; cases y)), upd_ne NgN]
                  exact hNM8
                generalize (upd (upd H8 gN (.lst (tx ((gs.eraseIdx j).take k ++ [nm] ++ (gs.eraseIdx j).drop k)))) gp (.ins C gdx (fR gN (gc + j)))) = HG at lvG hNMG ⊢
                generalize hg2 : (gs.eraseIdx j).take k ++ [nm] ++ (gs.eraseIdx j).drop k = gs2 at *
                generalize hc2 : gc + (j : Int) = gc2 at *
                refine ⟨_, rfl, _, rfl, _, rfl, gp, gdx, _, rfl, lvG.gr.1, gp, gdx, gN, gs2, gc2, rfl, lvG.gr, fun OR hOR => ⟨_, rfl, ?_⟩⟩
                have sO := new_ (o := .lst (tx gs2)) hOR
                have lvH := lvG.same sO
                have gO : (upd HG OR (.lst (tx gs2))) OR = some (.lst (tx gs2)) := upd_same
                have nO : ∀ {c : Addr} {ob : HO}, HG c = some ob → OR ≠ c := fun {c ob} z y => by rw [← y, hOR] at z; cases z
                have hNMG2 := sO _ _ hNMG
                generalize (upd HG OR (.lst (tx gs2))) = HH at sO lvH gO hNMG2 ⊢
                refine ⟨PR, NM, OR, _, _, refs, es, es', gs, gs2, rfl, lvH.pr, lvH.ea, lvH.re, lvH.sep, hNMG2, fun e he => ⟨(pu.cov.ne _ (List.mem_map.mpr ⟨e, he, rfl⟩)).2.1, (pu.cov.ne _ (List.mem_map.mpr ⟨e, he, rfl⟩)).2.2⟩, gO, lvG.gr.2.2.2, lvG.gr.2.2.1, fun s hs => hPo s (pu'.sub s hs), fun e he s hs => ?_, fun e he => ⟨fun y => (lvH.eN e he).2.2.1 y.symm, hNMe e he, nO (lvG.re e he).2.1⟩, hl', fun k e e' h1 h2 => ?_, fun HI hI kpI => ?_⟩
                · rw [pu.ord e he] at hs
                  exact hPo s (pu.sub s (List.mem_filter.mp hs).1)
                · obtain ⟨w1, w2⟩ := hact' k e e' h1 h2
                  exact ⟨w1, by rw [w2]; exact ord2_nodup lvG.gr.2.2.1 _, by rw [w2]; exact Nat.le_trans (ord2_len _ _) lvG.gr.2.2.2⟩
                · exact ⟨PR, gs2, gc2, go, refs, es', _, _, _, _, x12, x13, x14, rfl, lvH.moved hl' (fun k e e' h1 h2 => act_id (hact' k e e' h1 h2).1) hI kpI, pu', by omega, by omega, by omega⟩
            · -- called
              obtain ⟨i1, i2, i3⟩ := idx_ok lv.gr.2.2.1 hj
              refine ⟨_, rfl, gp, gdx, _, rfl, lv.gr.1, fR_no _ _ (by decide +kernel) (by decide +kernel), _, rfl, _, rfl, _, rfl, .inl ⟨rfl, _, SqL.of hNM⟩, _, rfl, NM, _, .str nm, j, .str nm, rfl, rfl, SqL.of hNM, rfl, tx_flat _, i1, i2, i3, _, _, rfl, rfl, sa, sl, n1, _, rfl, lv.st, by omega, by omega, sm48 (by omega) (by omega), fun r H8 r0 r1 S8 kp8 => ?_⟩
              have lvA := lv.kept S8 kp8
              have hNM8 := kp8 _ _ Na Nl hNM
              have er : r = ((r.toNat : Nat) : Int) := (Int.toNat_of_nonneg r0).symm
              have kj : r.toNat ≤ j := by omega
              generalize r.toNat = k at er kj
              subst er
              obtain ⟨es', hl', hact', pu'⟩ := pu_call pu hj kj
              have nd2 := pu'.cov.nd
              have l2 : ((gs.eraseIdx j).take k ++ [nm] ++ (gs.eraseIdx j).drop k).length = gs.length := by
                have h1 : (gs.eraseIdx j).length + 1 = gs.length := by rw [List.length_eraseIdx_of_lt jl]; omega
                have h2 : (gs.eraseIdx j).take k ++ (gs.eraseIdx j).drop k = gs.eraseIdx j := List.take_append_drop k _
                have h3 := congrArg List.length h2
                rw [List.length_append] at h3
                rw [List.length_append, List.length_append, List.length_singleton]
                omega
              refine ⟨gp, gdx, gN, gs, gc, nm, j, .int (k : Nat), rfl, lvA.gr, hj, .inr ⟨k, rfl, kj, ?_⟩⟩
              have lvG := (lvA.setN (gs2 := (gs.eraseIdx j).take k ++ [nm] ++ (gs.eraseIdx j).drop k) nd2 (by rw [l2]; exact lv.gr.2.2.2)).setC (gc + j)
              have hNMG : (upd (upd H8 gN (.lst (tx ((gs.eraseIdx j).take k ++ [nm] ++ (gs.eraseIdx j).drop k)))) gp (.ins C gdx (fR gN (gc + j)))) NM = some (.lst (tx gs)) := by
                rw [upd_ne (ne_of hNM8 lvA.gr.1 (by intro y; cases y)), upd_ne NgN]
                exact hNM8
              generalize (upd (upd H8 gN (.lst (tx ((gs.eraseIdx j).take k ++ [nm] ++ (gs.eraseIdx j).drop k)))) gp (.ins C gdx (fR gN (gc + j)))) = HG at lvG hNMG ⊢
              generalize hg2 : (gs.eraseIdx j).take k ++ [nm] ++ (gs.eraseIdx j).drop k = gs2 at *
              generalize hc2 : gc + (j : Int) = gc2 at *
              refine ⟨_, rfl, _, rfl, _, rfl, gp, gdx, _, rfl, lvG.gr.1, gp, gdx, gN, gs2, gc2, rfl, lvG.gr, fun OR hOR => ⟨_, rfl, ?_⟩⟩
              have sO := new_ (o := .lst (tx gs2)) hOR
              have lvH := lvG.same sO
              have gO : (upd HG OR (.lst (tx gs2))) OR = some (.lst (tx gs2)) := upd_same
              have nO : ∀ {c : Addr} {ob : HO}, HG c = some ob → OR ≠ c := fun {c ob} z y => by rw [← y, hOR] at z; cases z
              have hNMG2 := sO _ _ hNMG
              generalize (upd HG OR (.lst (tx gs2))) = HH at sO lvH gO hNMG2 ⊢
              refine ⟨PR, NM, OR, _, _, refs, es, es', gs, gs2, rfl, lvH.pr, lvH.ea, lvH.re, lvH.sep, hNMG2, fun e he => ⟨(pu.cov.ne _ (List.mem_map.mpr ⟨e, he, rfl⟩)).2.1, (pu.cov.ne _ (List.mem_map.mpr ⟨e, he, rfl⟩)).2.2⟩, gO, lvG.gr.2.2.2, lvG.gr.2.2.1, fun s hs => hPo s (pu'.sub s hs), fun e he s hs => ?_, fun e he => ⟨fun y => (lvH.eN e he).2.2.1 y.symm, hNMe e he, nO (lvG.re e he).2.1⟩, hl', fun k e e' h1 h2 => ?_, fun HI hI kpI => ?_⟩
              · rw [pu.ord e he] at hs
                exact hPo s (pu.sub s (List.mem_filter.mp hs).1)
              · obtain ⟨w1, w2⟩ := hact' k e e' h1 h2
                exact ⟨w1, by rw [w2]; exact ord2_nodup lvG.gr.2.2.1 _, by rw [w2]; exact Nat.le_trans (ord2_len _ _) lvG.gr.2.2.2⟩
              · exact ⟨PR, gs2, gc2, go, refs, es', _, _, _, _, x12, x13, x14, rfl, lvH.moved hl' (fun k e e' h1 h2 => act_id (hact' k e e' h1 h2).1) hI kpI, pu', by omega, by omega, by omega⟩
        · rw [decide_eq_false hm]
          refine iteT ?_
          -- a newcomer
          refine ⟨_, rfl, gp, gdx, _, rfl, lv.gr.1, fR_no _ _ (by decide +kernel) (by decide +kernel), _, rfl, _, rfl, _, rfl, NM, _, rfl, .inl (SqL.of hNM), ?_⟩
          rw [lN]
          refine ⟨_, _, rfl, rfl, sa, sl, n1, _, rfl, lv.st, by omega, by omega, sm48 (by omega) (by omega), fun r H8 r0 r1 S8 kp8 => ?_⟩
          have lvA := lv.kept S8 kp8
          have hNM8 := kp8 _ _ Na Nl hNM
          have er : r = ((r.toNat : Nat) : Int) := (Int.toNat_of_nonneg r0).symm
          have kl : r.toNat ≤ gs.length := by omega
          generalize r.toNat = k at er kl
          subst er
          refine ⟨gp, gdx, gN, gs, gc, nm, k, rfl, lvA.gr, hm, kl, ?_⟩
          have l2 : (gs.take k ++ [nm] ++ gs.drop k).length = gs.length + 1 := by simp; omega
          have nd2 : (gs.take k ++ [nm] ++ gs.drop k).Nodup := put_nodup lv.gr.2.2.1 hm
          have lvB := lvA.setN (gs2 := gs.take k ++ [nm] ++ gs.drop k) nd2 (by rw [l2]; omega)
          have hNMB : (upd H8 gN (.lst (tx (gs.take k ++ [nm] ++ gs.drop k)))) NM = some (.lst (tx gs)) := by
            rw [upd_ne NgN]
            exact hNM8
          have puP := fun (ne : List En) h1 h2 h3 => pu_put (ne := ne) pu hm hnm k h1 h2 h3
          generalize (upd H8 gN (.lst (tx (gs.take k ++ [nm] ++ gs.drop k)))) = HB at lvB hNMB ⊢
          generalize gs.take k ++ [nm] ++ gs.drop k = gs2 at *
          have l60 : gs2.length ≤ 60 := by omega
          refine ⟨_, rfl, NM, rfl, ⟨_, SqL.of hNMB⟩, ?_⟩
          refine for_list (K := K) (a := NM) (xs := tx gs) (fun j σ' H' => ∃ x12 refs ne, σ' = [some (.ref a), some (.ref sa), some (.ref PL), some (.int (m : Int)), some (.ref gp), some (.ref PR), x6, some (.int go), some (.int (0 + (i : Int))), some (.ref NM), some (.int kd), some (.str nm), x12, x13, x14, none, none, none] ∧ LV C H' sa sl PL PR gp gdx gN pool gs2 gc refs (es ++ ne) (n1 + 1) ∧ H' NM = some (.lst (tx gs)) ∧ ne.map key = (gs.take j).map (fun o => (nm, o)) ∧ (∀ e ∈ ne, e.nm = RV.ord2 gs2 (key e) ∧ e.c = 0)) ?_ ?_ ?_ ?_
          · exact ⟨x12, refs, [], rfl, by rw [List.append_nil]; exact lvB, hNMB, rfl, fun e he => (List.not_mem_nil he).elim⟩
          · rintro j σ' H' _ ⟨_, _, _, _, _, hh, _⟩
            exact SqL.of hh
          · rintro j x _ HC hx ⟨y12, refs2, ne, rfl, lvC, hNMC, hk, hne⟩
            rw [List.getElem?_map, Option.map_eq_some_iff] at hx
            obtain ⟨o, ho, rfl⟩ := hx
            have hjl : j < gs.length := (List.getElem?_eq_some_iff.mp ho).1
            have nel : ne.length = j := by
              have := congrArg List.length hk
              rw [List.length_map, List.length_map, List.length_take] at this
              omega
            refine ⟨_, rfl, .inl ⟨rfl, _, SqL.of lvC.pr⟩, _, rfl, _, rfl, ?_⟩
            refine ⟨_, rfl, gp, gdx, _, rfl, lvC.gr.1, gp, gdx, gN, gs2, gc, rfl, lvC.gr, fun q2 hq2 => ?_⟩
            have sq2 := new_ (o := .lst (tx gs2)) hq2
            have gq2 : (upd HC q2 (.lst (tx gs2))) q2 = some (.lst (tx gs2)) := upd_same
            generalize (upd HC q2 (.lst (tx gs2))) = HQ at sq2 gq2 ⊢
            refine ⟨q2, rfl, ⟨_, SqL.of gq2⟩, fun Dd hD => ?_⟩
            refine lc_list (K := K) (a := q2) (xs := tx gs2) (fun j H' => Same HQ H' ∧ H' Dd = some (.lst (tx ((gs2.take j).filter fun z => decide (z = nm) || decide (z = o))))) ⟨new_ hD, upd_same⟩ (fun j H' _ q => SqL.of (q.1 _ _ gq2)) ?_ ?_
            · rintro j z HZ hz ⟨s2, hd⟩
              rw [List.getElem?_map, Option.map_eq_some_iff] at hz
              obtain ⟨v, hv, rfl⟩ := hz
              have hf := tx_flt (fun z => decide (z = nm) || decide (z = o)) gs2 j hv
              refine ⟨rfl, ?_⟩
              refine ⟨_, rfl, _, rfl, _, rfl, by show 2 ≤ sizeLine; decide, fun tp htp => ⟨tp, _, rfl, .inr (SqT.of upd_same), rfl, rfl, _, rfl, ?_⟩⟩
              show ite (inV (V.str v) (tx [nm, o]) = true) _ _
              rw [inV_tx, show decide (v ∈ [nm, o]) = (decide (v = nm) || decide (v = o)) by simp]
              have st := new_ (o := .tup [V.str nm, .str o]) htp
              have s3 := s2.trans st
              have hd3 := st _ _ hd
              have hjl : j < gs2.length := (List.getElem?_eq_some_iff.mp hv).1
              cases hb : (decide (v = nm) || decide (v = o)) with
              | false =>
                rw [hb, if_neg (by decide), List.append_nil] at hf
                rw [if_neg (by decide), hf]
                exact ⟨s3, hd3⟩
              | true =>
                rw [hb, if_pos rfl] at hf
                rw [if_pos rfl]
                refine ⟨_, rfl, _, hd3, ?_, ?_, ?_⟩
                · rw [List.length_map]
                  have := List.length_filter_le (fun z => decide (z = nm) || decide (z = o)) (gs2.take j)
                  rw [List.length_take] at this
                  exact Nat.lt_of_le_of_lt (by omega : _ ≤ 60) (by decide)
                · intro d o ed
                  rw [upd_ne (ne_of_none ed hD)]
                  exact s3 _ _ ed
                · rw [upd_same, hf]
            · rintro HZ ⟨s2, hd⟩
              rw [List.length_map, List.take_length] at hd
              have sZ := sq2.trans s2
              intro x dx nx ndx nex
              refine mk_riv (G := Dd) (ss := RV.ord2 gs2 (nm, o)) (.inl (SqL.of hd)) (ord2_nodup lvC.gr.2.2.1 _) (Nat.le_trans (ord2_len _ _) l60) nx ndx nex fun N HM sM rv N0 => ⟨rfl, by show 3 ≤ sizeLine; decide, fun t ht => ?_⟩
              have st := new_ (o := .tup [V.str nm, .str o, .ref x]) ht
              have sA := sZ.trans (sM.trans st)
              have gt : (upd HM t (.tup [V.str nm, .str o, .ref x])) t = some (.tup [V.str nm, .str o, .ref x]) := upd_same
              have rv2 : RivAt C (upd HM t (.tup [V.str nm, .str o, .ref x])) x dx N (RV.ord2 gs2 (nm, o)) 0 := ⟨st _ _ rv.1, st _ _ rv.2.1, rv.2.2⟩
              generalize (upd HM t (.tup [V.str nm, .str o, .ref x])) = HN at sA gt rv2 ⊢
              have lvD := lvC.add sA (e := ⟨nm, o, x, dx, N, RV.ord2 gs2 (nm, o), 0⟩) rv2 (L2.Same.none sZ nx) (L2.Same.none sZ N0) gt
              refine ⟨PR, _, _, rfl, rfl, sA _ _ lvC.pr, ?_, _, refs2 ++ [.ref t], ne ++ [⟨nm, o, x, dx, N, RV.ord2 gs2 (nm, o), 0⟩], rfl, by rw [← List.append_assoc]; exact lvD, ?_, ?_, fun e he => ?_⟩
              · rw [lvC.ea.1, List.length_append]
                exact Nat.lt_of_le_of_lt (by omega : es.length + ne.length ≤ 2000) (by decide)
              · rw [upd_ne NPR]
                exact sA _ _ hNMC
              · rw [List.map_append, hk, L2.take_succ' ho, List.map_append]
                rfl
              · rcases List.mem_append.mp he with he | he
                · exact hne e he
                · cases List.mem_singleton.mp he
                  exact ⟨rfl, rfl⟩
          · rintro σ' HC ⟨y12, refs2, ne, rfl, lvC, hNMC, hk, hne⟩
            rw [lN, List.take_length] at hk
            have nel : ne.length = gs.length := by
              have := congrArg List.length hk
              rwa [List.length_map, List.length_map] at this
            exact ⟨PR, gs2, gc, go, refs2, es ++ ne, n1 + 1, _, _, _, y12, x13, x14, rfl, lvC, puP ne hk (fun e he => (hne e he).1) (fun e he => (hne e he).2), by omega, by rw [List.length_append]; omega, by omega⟩
      clear lv pu hel hgl hn hNM hNMe NPR NgN
      rintro _ H8 ⟨PR, gs, gc, go, refs, es, n, x9, x10, x11, x12, x13, x14, rfl, lv, pu, hgl, hel, hn⟩
      -- the orders
      refine ⟨fun σ' H' => ∃ x12 x13 x14, σ' = [some (.ref a), some (.ref sa), some (.ref PL), some (.int (m : Int)), some (.ref gp), some (.ref PR), x6, some (.int go), some (.int (0 + (i : Int))), x9, x10, x11, x12, x13, x14, none, none, none] ∧ Same H8 H', ?_, ?_⟩
      · refine ⟨_, rfl, PR, rfl, ⟨_, SqL.of lv.pr⟩, ?_⟩
        refine for_list (K := K) (a := PR) (xs := refs) (fun j σ' H' => ∃ x12 x13 x14, σ' = [some (.ref a), some (.ref sa), some (.ref PL), some (.int (m : Int)), some (.ref gp), some (.ref PR), x6, some (.int go), some (.int (0 + (i : Int))), x9, x10, x11, x12, x13, x14, none, none, none] ∧ Same H8 H') ?_ ?_ ?_ ?_
        · exact ⟨_, _, _, rfl, fun _ _ e => e⟩
        · rintro j σ' H' _ ⟨_, _, _, _, s'⟩
          exact SqL.of (s' _ _ lv.pr)
        · rintro j x _ H9 hx ⟨y12, y13, y14, rfl, s9⟩
          obtain ⟨c, e, rfl, he, hc⟩ := lv.ea.at_ hx
          have hem := List.mem_of_getElem? he
          have lv9 := lv.same s9
          have re9 := lv9.re e hem
          refine ⟨c, _, rfl, SqT.of (s9 _ _ hc), rfl, _, _, rfl, _, _, rfl, _, _, rfl, rfl, ?_⟩
          refine ⟨_, rfl, e.p, e.dx, _, rfl, re9.1, e.p, e.dx, e.N, e.nm, e.c, rfl, re9, fun q hq => ?_⟩
          have sq := new_ (o := .lst (tx e.nm)) hq
          have gq : (upd H9 q (.lst (tx e.nm))) q = some (.lst (tx (RV.ord2 gs (e.x, e.y)))) := by
            rw [upd_same, show e.nm = RV.ord2 gs (e.x, e.y) from pu.ord e hem]
          have lvq := lv9.same sq
          generalize (upd H9 q (.lst (tx e.nm))) = HP at sq gq lvq ⊢
          refine ⟨_, rfl, gp, gdx, _, rfl, lvq.gr.1, gp, gdx, gN, gs, gc, rfl, lvq.gr, fun q2 hq2 => ?_⟩
          have sq2 := new_ (o := .lst (tx gs)) hq2
          have gq2 : (upd HP q2 (.lst (tx gs))) q2 = some (.lst (tx gs)) := upd_same
          generalize (upd HP q2 (.lst (tx gs))) = HQ at sq2 gq2 ⊢
          refine ⟨q2, rfl, ⟨_, SqL.of gq2⟩, fun Dd hD => ?_⟩
          refine lc_list (K := K) (a := q2) (xs := tx gs) (fun j H' => Same HQ H' ∧ H' Dd = some (.lst (tx ((gs.take j).filter fun z => decide (z = e.x) || decide (z = e.y))))) ⟨new_ hD, upd_same⟩ (fun j H' _ q => SqL.of (q.1 _ _ gq2)) ?_ ?_
          · rintro j z HZ hz ⟨s2, hd⟩
            rw [List.getElem?_map, Option.map_eq_some_iff] at hz
            obtain ⟨v, hv, rfl⟩ := hz
            have hf := tx_flt (fun z => decide (z = e.x) || decide (z = e.y)) gs j hv
            refine ⟨rfl, ?_⟩
            refine ⟨_, rfl, _, rfl, _, rfl, by show 2 ≤ sizeLine; decide, fun tp htp => ⟨tp, _, rfl, .inr (SqT.of upd_same), rfl, rfl, _, rfl, ?_⟩⟩
            show ite (inV (V.str v) (tx [e.x, e.y]) = true) _ _
            rw [inV_tx, show decide (v ∈ [e.x, e.y]) = (decide (v = e.x) || decide (v = e.y)) by simp]
            have st := new_ (o := .tup [V.str e.x, .str e.y]) htp
            have s3 := s2.trans st
            have hd3 := st _ _ hd
            have hjl : j < gs.length := (List.getElem?_eq_some_iff.mp hv).1
            cases hb : (decide (v = e.x) || decide (v = e.y)) with
            | false =>
              rw [hb, if_neg (by decide), List.append_nil] at hf
              rw [if_neg (by decide), hf]
              exact ⟨s3, hd3⟩
            | true =>
              rw [hb, if_pos rfl] at hf
              rw [if_pos rfl]
              refine ⟨_, rfl, _, hd3, ?_, ?_, ?_⟩
              · rw [List.length_map]
                have := List.length_filter_le (fun z => decide (z = e.x) || decide (z = e.y)) (gs.take j)
                rw [List.length_take] at this
                exact Nat.lt_of_le_of_lt (by omega : _ ≤ 60) (by decide)
              · intro d o ed
                rw [upd_ne (ne_of_none ed hD)]
                exact s3 _ _ ed
              · rw [upd_same, hf]
          · rintro HZ ⟨s2, hd⟩
            rw [List.length_map, List.take_length] at hd
            have sZ := sq2.trans s2
            refine ⟨.ref q, .ref Dd, rfl, .strs (sZ _ _ gq) hd (Nat.le_trans (ord2_len _ _) lvq.gr.2.2.2), fun HW sW => ⟨_, rfl, iteF ⟨_, _, _, rfl, ((s9.trans sq).trans sZ).trans sW⟩⟩⟩
        · rintro σ' H9 ⟨y12, y13, y14, rfl, s9⟩
          exact ⟨_, _, _, rfl, s9⟩
      rintro _ H9 ⟨y12, y13, y14, rfl, s89⟩
      have lv9 := lv.same s89
      -- the costs
      refine ⟨_, rfl, gp, C, gdx, _, _, rfl, lv9.gr.1, R.cl, R.nC, fR_cost _ _, ?_⟩
      refine ⟨_, rfl, ?_⟩
      refine ⟨_, rfl, PR, rfl, ⟨_, SqL.of lv9.pr⟩, fun Dd hD => ?_⟩
      refine lc_list (K := K) (a := PR) (xs := refs) (fun j H' => Same H9 H' ∧ H' Dd = some (.lst (((es.take j).map fun e => e.c).map V.int))) ⟨new_ hD, upd_same⟩ (fun j H' _ q => SqL.of (q.1 _ _ lv9.pr)) ?_ ?_
      · rintro j z HZ hz ⟨s2, hd⟩
        obtain ⟨c, e, rfl, he, hc⟩ := lv9.ea.at_ hz
        have hem := List.mem_of_getElem? he
        have hjl : j < es.length := (List.getElem?_eq_some_iff.mp he).1
        have htk := L2.take_succ' he
        refine ⟨rfl, ?_⟩
        dsimp only [tYes]
        rw [if_pos rfl]
        have re := RivE.of (lv9.re e hem) (fun _ z => s2 _ _ z) fun _ z => s2 _ _ z
        refine ⟨_, rfl, c, _, 2, .ref e.p, rfl, rfl, SqT.of (s2 _ _ hc), rfl, e.p, C, e.dx, _, _, rfl, re.1, R.cl, R.nC, fR_cost _ _, _, hd, ?_, ?_, ?_⟩
        · rw [List.length_map, List.length_map, List.length_take]
          exact Nat.lt_of_le_of_lt (by omega : min j es.length ≤ 1000) (by decide)
        · intro d o ed
          rw [upd_ne (ne_of_none ed hD)]
          exact s2 _ _ ed
        · rw [upd_same, htk, List.map_append, List.map_append]
          rfl
      · rintro HZ ⟨s2, hd⟩
        rw [lv9.ea.1, List.take_length] at hd
        refine ⟨Dd, _, rfl, SqL.of hd, _, _, rfl, rfl, .int gc, .int (go + (es.map fun e => e.c).sum), rfl, ?_, fun HW sW => ⟨_, rfl, iteF ?_⟩⟩
        · rw [tot_sum, ← pu.sum]
          exact .int _ _
        · exact ⟨PR, gs, gc, go, refs, es, n, _, _, _, _, _, _, _, _, rfl, lv9.same (s2.trans sW), pu, by omega, by omega, by omega⟩
    · rintro _ H6 ⟨PR, gs, gc, go, refs, es, n, x6, x8, x9, x10, x11, x12, x13, x14, rfl, lv, pu, hgl, hel, hn⟩
      exact kk H6
end
end PA

set_option maxHeartbeats 8000000
namespace PA
open PySem L2 RZ
theorem kit_self {K : PySem.W.Frag} {C : Addr} : PySem.W.kitOne K (.ref C) (.ref C) = some true := by
  unfold PySem.W.kitOne
  rw [if_pos (by simp)]
theorem kit_2 {K : PySem.W.Frag} {C D : Addr} (h1 : (Value.ref D == Value.ref C) = false) (h2 : PySem.W.isClsIn K C = true) (h3 : PySem.W.typeIn K (.ref C) = some (.type "type")) (h4 : PySem.W.subIn K (.ref D) (.ref C) = some false) : PySem.W.kitOne K (.ref D) (.ref C) = some false := by
  have e2 : ((PySem.W.clsIn K C).isSome && PySem.W.typeIn K (.ref C) == some (.type "type")) = true := by
    have h2' : (PySem.W.clsIn K C).isSome = true := h2
    rw [h2', h3] <;> rfl
  unfold PySem.W.kitOne
  rw [h1, if_neg (by simp)]
  show (if ((PySem.W.clsIn K C).isSome && PySem.W.typeIn K (.ref C) == some (.type "type")) = true then PySem.W.subIn K (.ref D) (.ref C) else none) = some false
  rw [if_pos e2]
  exact h4
theorem exm_2 {K : PySem.W.Frag} {S P : Addr} (h1 : PySem.W.subIn K (.ref P) (.type "BaseException") = some true) (h2 : PySem.W.isClsIn K P = true) (h3 : PySem.W.typeIn K (.ref P) = some (.type "type")) (h4 : PySem.W.subIn K (.ref S) (.ref P) = some true) :
    PySem.W.exmOne K (.ref S) (.ref P) = some true := by
  have e2 : ((PySem.W.clsIn K P).isSome && PySem.W.typeIn K (.ref P) == some (.type "type")) = true := by
    have h2' : (PySem.W.clsIn K P).isSome = true := h2
    rw [h2', h3] <;> rfl
  unfold PySem.W.exmOne
  rw [h1, if_pos (by simp)]
  show (if ((PySem.W.clsIn K P).isSome && PySem.W.typeIn K (.ref P) == some (.type "type")) = true then PySem.W.subIn K (.ref S) (.ref P) else none) = some true
  rw [if_pos e2]
  exact h4
theorem kit_cls {K : PySem.W.Frag} {C : Addr} {t : String} (h2 : PySem.W.isClsIn K C = true) (h3 : PySem.W.typeIn K (.ref C) = some (.type "type")) (h4 : PySem.W.subIn K (.type t) (.ref C) = some false) : PySem.W.kitOne K (.type t) (.ref C) = some false := by
  have e2 : ((PySem.W.clsIn K C).isSome && PySem.W.typeIn K (.ref C) == some (.type "type")) = true := by
    have h2' : (PySem.W.clsIn K C).isSome = true := h2
    rw [h2', h3] <;> rfl
  unfold PySem.W.kitOne
  rw [if_neg (by simp)]
  show (if ((PySem.W.clsIn K C).isSome && PySem.W.typeIn K (.ref C) == some (.type "type")) = true then PySem.W.subIn K (.type t) (.ref C) else none) = some false
  rw [if_pos e2]
  exact h4
theorem bC2_of {K : PySem.W.Frag} {f : Addr} {fd : FuncData} (F : FunC K f fd) : Binds K fd ["self", "name", "to"] [] := by
  obtain ⟨ds, hv, hb⟩ := F.binds1 (ps := ["self", "name", "to"]) 3 1 (by simp) rfl (fun T kV doc pm an cdv ct us its h1 h2 => match us, h1, its, h2 with | [_, _, _], _, [_], _ => ⟨_, rfl, rfl⟩)
  cases hv
  exact hb
theorem all_mk {l : PySem.W.OpenLaw} {w : World} {K : PySem.W.Frag} {h : Heap} {mg : Str → Option Value} {fa C gInit pO gOrder TT gCall gExch gPut gDrop gPlace gdraw gstart gpick gmixed gsame gnames gmoved gLaw : Addr} (X_ : K.In h) (G : h.Ns mainGlobals mg) (hfa : mg "law" = some (.ref fa))
    {ocInit kVInit dcInit pmInit cdInit ctInit : Value} {odInit anInit : Option Addr} {slInit : Array (Option Value)} {restO : List Value} {ocOrder kVOrder dcOrder pmOrder cdOrder ctOrder : Value} {odOrder anOrder : Option Addr} {slOrder : Array (Option Value)} {oT : Value} {odT : Option Addr} {mT : Nat} {slT : Array (Option Value)} {ocCall kVCall dcCall pmCall cdCall ctCall : Value} {odCall anCall : Option Addr} {slCall : Array (Option Value)} {ocExch kVExch dcExch pmExch cdExch ctExch : Value} {odExch anExch : Option Addr} {slExch : Array (Option Value)} {ocPut kVPut dcPut pmPut cdPut ctPut : Value} {odPut anPut : Option Addr} {slPut : Array (Option Value)} {ocDrop kVDrop dcDrop pmDrop cdDrop ctDrop : Value} {odDrop anDrop : Option Addr} {slDrop : Array (Option Value)} {ocPlace kVPlace dcPlace pmPlace cdPlace ctPlace : Value} {odPlace anPlace : Option Addr} {slPlace : Array (Option Value)} {ocdraw kVdraw dcdraw pmdraw cddraw ctdraw : Value} {oddraw andraw : Option Addr} {sldraw : Array (Option Value)} {ocstart kVstart dcstart pmstart cdstart ctstart : Value} {odstart anstart : Option Addr} {slstart : Array (Option Value)} {ocpick kVpick dcpick pmpick cdpick ctpick : Value} {odpick anpick : Option Addr} {slpick : Array (Option Value)} {ocmixed kVmixed dcmixed pmmixed cdmixed ctmixed : Value} {odmixed anmixed : Option Addr} {slmixed : Array (Option Value)} {ocsame kVsame dcsame pmsame cdsame ctsame : Value} {odsame ansame : Option Addr} {slsame : Array (Option Value)} {ocnames kVnames dcnames pmnames cdnames ctnames : Value} {odnames annames : Option Addr} {slnames : Array (Option Value)} {ocmoved kVmoved dcmoved pmmoved cdmoved ctmoved : Value} {odmoved anmoved : Option Addr} {slmoved : Array (Option Value)} {ocLaw kVLaw dcLaw pmLaw cdLaw ctLaw : Value} {odLaw anLaw : Option Addr} {slLaw : Array (Option Value)}
    (aC : PySem.W.nsIn K mainGlobals "Rival" = some (some (.ref C)))
    (pgC : PySem.W.plainGet K C Str.empty = true)
    (hdC : PySem.W.hasDictIn K C = true)
    (poC : PySem.W.plainOver K C = true)
    (saC : PySem.W.findIn K (.ref C) "__setattr__" = some (some (.builtin "object.__setattr__")))
    (kcC : PySem.W.keepIn K (.ref C) = true)
    (mkC : PySem.W.makesIn K C = true)
    (nCnames : PySem.W.findIn K (.ref C) "names" = some none)
    (nCcost : PySem.W.findIn K (.ref C) "cost" = some none)
    (zisinstance : PySem.W.nsIn K mainGlobals "isinstance" = some none)
    (zint : PySem.W.nsIn K mainGlobals "int" = some none)
    (zbool : PySem.W.nsIn K mainGlobals "bool" = some none)
    (zlist : PySem.W.nsIn K mainGlobals "list" = some none)
    (ztuple : PySem.W.nsIn K mainGlobals "tuple" = some none)
    (zlen : PySem.W.nsIn K mainGlobals "len" = some none)
    (zall : PySem.W.nsIn K mainGlobals "all" = some none)
    (zzip : PySem.W.nsIn K mainGlobals "zip" = some none)
    (zrange : PySem.W.nsIn K mainGlobals "range" = some none)
    (zsum : PySem.W.nsIn K mainGlobals "sum" = some none)
    (aInit : PySem.W.findIn K (.ref C) "__init__" = some (some (.ref gInit)))
    (lInit : K.lookup gInit = some ⟨ocInit, odInit, .func (PySem.W.fnOf "__init__" "Rival.__init__" (defArgs sInit) (defBody sInit) (defScope sInit) .none kVInit dcInit pmInit anInit cdInit ctInit), slInit⟩)
    (cInit : PySem.W.codeIn K cdInit "Rival.__init__" = true)
    (kInit : PySem.W.keepIn K (.ref gInit) = true)
    (iInit : PySem.W.isFn K (.ref gInit) = true)
    (ap : PySem.W.findIn K (.ref C) "order" = some (some (.ref pO)))
    (gp : PySem.W.specialIn K (.ref pO) "__get__" = some (some (.builtin "property.__get__")))
    (tp : PySem.W.takesIn K (.ref pO) = some true)
    (aOrder : PySem.W.recIn K pO "property" = some (.ref gOrder :: restO))
    (lOrder : K.lookup gOrder = some ⟨ocOrder, odOrder, .func (PySem.W.fnOf "order" "Rival.order" (defArgs sOrder) (defBody sOrder) (defScope sOrder) .none kVOrder dcOrder pmOrder anOrder cdOrder ctOrder), slOrder⟩)
    (cOrder : PySem.W.codeIn K cdOrder "Rival.order" = true)
    (kOrder : PySem.W.keepIn K (.ref gOrder) = true)
    (aCall : PySem.W.findIn K (.ref C) "call" = some (some (.ref gCall)))
    (lCall : K.lookup gCall = some ⟨ocCall, odCall, .func (PySem.W.fnOf "call" "Rival.call" (defArgs sCall) (defBody sCall) (defScope sCall) (.ref TT) kVCall dcCall pmCall anCall cdCall ctCall), slCall⟩)
    (cCall : PySem.W.codeIn K cdCall "Rival.call" = true)
    (kCall : PySem.W.keepIn K (.ref gCall) = true)
    (iCall : PySem.W.isFn K (.ref gCall) = true)
    (lT : K.lookup TT = some ⟨oT, odT, .seq #[.none] mT, slT⟩)
    (aExch : PySem.W.findIn K (.ref C) "exchange" = some (some (.ref gExch)))
    (lExch : K.lookup gExch = some ⟨ocExch, odExch, .func (PySem.W.fnOf "exchange" "Rival.exchange" (defArgs sExch) (defBody sExch) (defScope sExch) .none kVExch dcExch pmExch anExch cdExch ctExch), slExch⟩)
    (cExch : PySem.W.codeIn K cdExch "Rival.exchange" = true)
    (kExch : PySem.W.keepIn K (.ref gExch) = true)
    (iExch : PySem.W.isFn K (.ref gExch) = true)
    (aPut : PySem.W.findIn K (.ref C) "put" = some (some (.ref gPut)))
    (lPut : K.lookup gPut = some ⟨ocPut, odPut, .func (PySem.W.fnOf "put" "Rival.put" (defArgs sPut) (defBody sPut) (defScope sPut) .none kVPut dcPut pmPut anPut cdPut ctPut), slPut⟩)
    (cPut : PySem.W.codeIn K cdPut "Rival.put" = true)
    (kPut : PySem.W.keepIn K (.ref gPut) = true)
    (iPut : PySem.W.isFn K (.ref gPut) = true)
    (aDrop : PySem.W.findIn K (.ref C) "drop" = some (some (.ref gDrop)))
    (lDrop : K.lookup gDrop = some ⟨ocDrop, odDrop, .func (PySem.W.fnOf "drop" "Rival.drop" (defArgs sDrop) (defBody sDrop) (defScope sDrop) .none kVDrop dcDrop pmDrop anDrop cdDrop ctDrop), slDrop⟩)
    (cDrop : PySem.W.codeIn K cdDrop "Rival.drop" = true)
    (kDrop : PySem.W.keepIn K (.ref gDrop) = true)
    (iDrop : PySem.W.isFn K (.ref gDrop) = true)
    (aPlace : PySem.W.findIn K (.ref C) "_place" = some (some (.ref gPlace)))
    (lPlace : K.lookup gPlace = some ⟨ocPlace, odPlace, .func (PySem.W.fnOf "_place" "Rival._place" (defArgs sPlace) (defBody sPlace) (defScope sPlace) .none kVPlace dcPlace pmPlace anPlace cdPlace ctPlace), slPlace⟩)
    (cPlace : PySem.W.codeIn K cdPlace "Rival._place" = true)
    (kPlace : PySem.W.keepIn K (.ref gPlace) = true)
    (iPlace : PySem.W.isFn K (.ref gPlace) = true)
    (adraw : PySem.W.nsIn K mainGlobals "_law_draw" = some (some (.ref gdraw)))
    (ldraw : K.lookup gdraw = some ⟨ocdraw, oddraw, .func (PySem.W.fnOf "_law_draw" "_law_draw" (defArgs sDraw) (defBody sDraw) (defScope sDraw) .none kVdraw dcdraw pmdraw andraw cddraw ctdraw), sldraw⟩)
    (cdraw : PySem.W.codeIn K cddraw "_law_draw" = true)
    (kdraw : PySem.W.keepIn K (.ref gdraw) = true)
    (astart : PySem.W.nsIn K mainGlobals "_law_start" = some (some (.ref gstart)))
    (lstart : K.lookup gstart = some ⟨ocstart, odstart, .func (PySem.W.fnOf "_law_start" "_law_start" (defArgs sStart) (defBody sStart) (defScope sStart) .none kVstart dcstart pmstart anstart cdstart ctstart), slstart⟩)
    (cstart : PySem.W.codeIn K cdstart "_law_start" = true)
    (kstart : PySem.W.keepIn K (.ref gstart) = true)
    (apick : PySem.W.nsIn K mainGlobals "_law_pick" = some (some (.ref gpick)))
    (lpick : K.lookup gpick = some ⟨ocpick, odpick, .func (PySem.W.fnOf "_law_pick" "_law_pick" (defArgs sPick) (defBody sPick) (defScope sPick) .none kVpick dcpick pmpick anpick cdpick ctpick), slpick⟩)
    (cpick : PySem.W.codeIn K cdpick "_law_pick" = true)
    (kpick : PySem.W.keepIn K (.ref gpick) = true)
    (amixed : PySem.W.nsIn K mainGlobals "_law_mixed" = some (some (.ref gmixed)))
    (lmixed : K.lookup gmixed = some ⟨ocmixed, odmixed, .func (PySem.W.fnOf "_law_mixed" "_law_mixed" (defArgs sMixed) (defBody sMixed) (defScope sMixed) .none kVmixed dcmixed pmmixed anmixed cdmixed ctmixed), slmixed⟩)
    (cmixed : PySem.W.codeIn K cdmixed "_law_mixed" = true)
    (kmixed : PySem.W.keepIn K (.ref gmixed) = true)
    (asame : PySem.W.nsIn K mainGlobals "_law_same" = some (some (.ref gsame)))
    (lsame : K.lookup gsame = some ⟨ocsame, odsame, .func (PySem.W.fnOf "_law_same" "_law_same" (defArgs sSame) (defBody sSame) (defScope sSame) .none kVsame dcsame pmsame ansame cdsame ctsame), slsame⟩)
    (csame : PySem.W.codeIn K cdsame "_law_same" = true)
    (ksame : PySem.W.keepIn K (.ref gsame) = true)
    (anames : PySem.W.nsIn K mainGlobals "_law_p_names" = some (some (.ref gnames)))
    (lnames : K.lookup gnames = some ⟨ocnames, odnames, .func (PySem.W.fnOf "_law_p_names" "_law_p_names" (defArgs sNames) (defBody sNames) (defScope sNames) .none kVnames dcnames pmnames annames cdnames ctnames), slnames⟩)
    (cnames : PySem.W.codeIn K cdnames "_law_p_names" = true)
    (knames : PySem.W.keepIn K (.ref gnames) = true)
    (amoved : PySem.W.nsIn K mainGlobals "_law_p_moved" = some (some (.ref gmoved)))
    (lmoved : K.lookup gmoved = some ⟨ocmoved, odmoved, .func (PySem.W.fnOf "_law_p_moved" "_law_p_moved" (defArgs sMoved) (defBody sMoved) (defScope sMoved) .none kVmoved dcmoved pmmoved anmoved cdmoved ctmoved), slmoved⟩)
    (cmoved : PySem.W.codeIn K cdmoved "_law_p_moved" = true)
    (kmoved : PySem.W.keepIn K (.ref gmoved) = true)
    (aLaw : PySem.W.nsIn K mainGlobals "law" = some (some (.ref gLaw)))
    (lLaw : K.lookup gLaw = some ⟨ocLaw, odLaw, .func (PySem.W.fnOf "law" "law" (defArgs sLaw) (defBody sLaw) (defScope sLaw) .none kVLaw dcLaw pmLaw anLaw cdLaw ctLaw), slLaw⟩)
    (cLaw : PySem.W.codeIn K cdLaw "law" = true)
    (kLaw : PySem.W.keepIn K (.ref gLaw) = true) :
    ∃ fd : FuncData, (∀ (s : Shared) (v : Value), BindsTo s fd ⟨[v], []⟩ [("_law_script", v)]) ∧ ∀ base : Heap, K.In base → base.Ns mainGlobals mg → FnOk l.prog w K mg base CX0 5 fa fd ["_law_script"] (spLaw K) := by
  have e := hfa.symm.trans (PySem.W.mg_of X_ G aLaw)
  cases e
  have FInit := fun_mk (st := sInit) lInit cInit kInit
  have bInit := FInit.binds (ps := ["self", "names"]) fun _ _ _ _ _ _ us hl => match us, hl with | [_, _], _ => rfl
  have FOrder := fun_mk (st := sOrder) lOrder cOrder kOrder
  have bOrder := FOrder.binds (ps := ["self"]) fun _ _ _ _ _ _ us hl => match us, hl with | [_], _ => rfl
  have FCall : FunC K gCall (PySem.W.fnOf "call" "Rival.call" (defArgs sCall) (defBody sCall) (defScope sCall) (.ref TT) kVCall dcCall pmCall anCall cdCall ctCall) := ⟨⟨_, _, _, _, _, _, _, _, _, _, rfl, lCall, cCall, .inr ⟨by simp, TT, _, [.none], mT, rfl, lT, rfl, .cons rfl .nil⟩, .inl rfl⟩, kCall⟩
  have FExch := fun_mk (st := sExch) lExch cExch kExch
  have bExch := FExch.binds (ps := ["self", "at"]) fun _ _ _ _ _ _ us hl => match us, hl with | [_, _], _ => rfl
  have FPut := fun_mk (st := sPut) lPut cPut kPut
  have bPut := FPut.binds (ps := ["self", "name", "at"]) fun _ _ _ _ _ _ us hl => match us, hl with | [_, _, _], _ => rfl
  have FDrop := fun_mk (st := sDrop) lDrop cDrop kDrop
  have bDrop := FDrop.binds (ps := ["self", "name"]) fun _ _ _ _ _ _ us hl => match us, hl with | [_, _], _ => rfl
  have FPlace := fun_mk (st := sPlace) lPlace cPlace kPlace
  have bPlace := FPlace.binds (ps := ["self", "name"]) fun _ _ _ _ _ _ us hl => match us, hl with | [_, _], _ => rfl
  have Fdraw := fun_mk (st := sDraw) ldraw cdraw kdraw
  have bdraw := Fdraw.binds (ps := ["_law_stream", "_law_many"]) fun _ _ _ _ _ _ us hl => match us, hl with | [_, _], _ => rfl
  have Fstart := fun_mk (st := sStart) lstart cstart kstart
  have bstart := Fstart.binds (ps := ["_law_script"]) fun _ _ _ _ _ _ us hl => match us, hl with | [_], _ => rfl
  have Fpick := fun_mk (st := sPick) lpick cpick kpick
  have bpick := Fpick.binds (ps := ["_law_stream", "_law_some"]) fun _ _ _ _ _ _ us hl => match us, hl with | [_, _], _ => rfl
  have Fmixed := fun_mk (st := sMixed) lmixed cmixed kmixed
  have bmixed := Fmixed.binds (ps := ["_law_stream", "_law_some"]) fun _ _ _ _ _ _ us hl => match us, hl with | [_, _], _ => rfl
  have Fsame := fun_mk (st := sSame) lsame csame ksame
  have bsame := Fsame.binds (ps := ["_law_found", "_law_due"]) fun _ _ _ _ _ _ us hl => match us, hl with | [_, _], _ => rfl
  have Fnames := fun_mk (st := sNames) lnames cnames knames
  have bnames := Fnames.binds (ps := ["_law_stream", "_law_many"]) fun _ _ _ _ _ _ us hl => match us, hl with | [_, _], _ => rfl
  have Fmoved := fun_mk (st := sMoved) lmoved cmoved kmoved
  have bmoved := Fmoved.binds (ps := ["_law_pairs", "_law_names", "_law_order", "_law_name", "_law_exchanged"]) fun _ _ _ _ _ _ us hl => match us, hl with | [_, _, _, _, _], _ => rfl
  have PR : Prog K mg C gInit gOrder pO gCall gExch gPut gDrop gPlace gdraw gstart gpick gmixed gsame gnames gmoved (PySem.W.fnOf "__init__" "Rival.__init__" (defArgs sInit) (defBody sInit) (defScope sInit) .none kVInit dcInit pmInit anInit cdInit ctInit) (PySem.W.fnOf "order" "Rival.order" (defArgs sOrder) (defBody sOrder) (defScope sOrder) .none kVOrder dcOrder pmOrder anOrder cdOrder ctOrder) (PySem.W.fnOf "call" "Rival.call" (defArgs sCall) (defBody sCall) (defScope sCall) (.ref TT) kVCall dcCall pmCall anCall cdCall ctCall) (PySem.W.fnOf "exchange" "Rival.exchange" (defArgs sExch) (defBody sExch) (defScope sExch) .none kVExch dcExch pmExch anExch cdExch ctExch) (PySem.W.fnOf "put" "Rival.put" (defArgs sPut) (defBody sPut) (defScope sPut) .none kVPut dcPut pmPut anPut cdPut ctPut) (PySem.W.fnOf "drop" "Rival.drop" (defArgs sDrop) (defBody sDrop) (defScope sDrop) .none kVDrop dcDrop pmDrop anDrop cdDrop ctDrop) (PySem.W.fnOf "_place" "Rival._place" (defArgs sPlace) (defBody sPlace) (defScope sPlace) .none kVPlace dcPlace pmPlace anPlace cdPlace ctPlace) (PySem.W.fnOf "_law_draw" "_law_draw" (defArgs sDraw) (defBody sDraw) (defScope sDraw) .none kVdraw dcdraw pmdraw andraw cddraw ctdraw) (PySem.W.fnOf "_law_start" "_law_start" (defArgs sStart) (defBody sStart) (defScope sStart) .none kVstart dcstart pmstart anstart cdstart ctstart) (PySem.W.fnOf "_law_pick" "_law_pick" (defArgs sPick) (defBody sPick) (defScope sPick) .none kVpick dcpick pmpick anpick cdpick ctpick) (PySem.W.fnOf "_law_mixed" "_law_mixed" (defArgs sMixed) (defBody sMixed) (defScope sMixed) .none kVmixed dcmixed pmmixed anmixed cdmixed ctmixed) (PySem.W.fnOf "_law_same" "_law_same" (defArgs sSame) (defBody sSame) (defScope sSame) .none kVsame dcsame pmsame ansame cdsame ctsame) (PySem.W.fnOf "_law_p_names" "_law_p_names" (defArgs sNames) (defBody sNames) (defScope sNames) .none kVnames dcnames pmnames annames cdnames ctnames) (PySem.W.fnOf "_law_p_moved" "_law_p_moved" (defArgs sMoved) (defBody sMoved) (defScope sMoved) .none kVmoved dcmoved pmmoved anmoved cdmoved ctmoved) := ⟨⟨⟨PySem.W.mg_none_of X_ G zisinstance, PySem.W.mg_none_of X_ G zint, PySem.W.mg_none_of X_ G zbool, PySem.W.mg_none_of X_ G zlist, PySem.W.mg_none_of X_ G ztuple, PySem.W.mg_none_of X_ G zlen, PySem.W.mg_none_of X_ G zall, PySem.W.mg_none_of X_ G zzip, PySem.W.mg_none_of X_ G zrange⟩, ⟨⟨pgC, hdC, poC, saC⟩, nCnames, nCcost⟩, FOrder, bOrder, ⟨ap, gp, tp, ⟨_, aOrder⟩⟩, FCall, bC2_of FCall, ⟨aCall, iCall, kCall⟩, FExch, bExch, ⟨aExch, iExch, kExch⟩, FPlace, bPlace, ⟨aPlace, iPlace, kPlace⟩⟩, PySem.W.mg_of X_ G aC, FInit, bInit, ⟨mkC, aInit, iInit, kcC⟩, FPut, bPut, ⟨aPut, iPut, kPut⟩, FDrop, bDrop, ⟨aDrop, iDrop, kDrop⟩, PySem.W.mg_none_of X_ G zsum, ⟨Fdraw, bdraw, PySem.W.mg_of X_ G adraw⟩, ⟨Fstart, bstart, PySem.W.mg_of X_ G astart⟩, ⟨Fpick, bpick, PySem.W.mg_of X_ G apick⟩, ⟨Fmixed, bmixed, PySem.W.mg_of X_ G amixed⟩, ⟨Fsame, bsame, PySem.W.mg_of X_ G asame⟩, ⟨Fnames, bnames, PySem.W.mg_of X_ G anames⟩, ⟨Fmoved, bmoved, PySem.W.mg_of X_ G amoved⟩⟩
  exact ⟨PySem.W.fnOf "law" "law" (defArgs sLaw) (defBody sLaw) (defScope sLaw) .none kVLaw dcLaw pmLaw anLaw cdLaw ctLaw, fun s v => .of_eq rfl, fun base _ _ => ok_law (fun_mk (st := sLaw) lLaw cLaw kLaw) PR⟩
theorem walk_ {l : PySem.W.OpenLaw} {q : Program} {loose : List Str} {XP : (Str → Option Value) → Heap → Prop} {YP : World → Heap → Prop} {d : DefRec} {K : Params → PySem.W.Frag} (hn : l.most = some 63) (hdf : d.params.defaults = [])
    (hY : ∀ (w : World) (h : Heap), YP w h → (K w.params).In h)
    (F : ∀ (w : World) (mg : Str → Option Value) (fa : Addr) (h : Heap), (K w.params).In h → h.Ns mainGlobals mg → mg d.name = some (.ref fa) →
      ∃ fd : FuncData, (∀ (s : Shared) (u : Value), BindsTo s fd ⟨[u], []⟩ [("_law_script", u)]) ∧ ∀ base : Heap, (K w.params).In base → base.Ns mainGlobals mg → FnOk l.prog w (K w.params) mg base CX0 5 fa fd ["_law_script"] (spLaw (K w.params))) :
    PySem.W.WalkO q loose XP YP l.row.toRowW d [] (fun f vs => PySem.call f vs) :=
  L2.walk_of (n := 63) (k := 5) (x := "_law_script") (CX := fun _ => CX0) (sp := fun w => spLaw (K w.params)) hn (by decide) hdf ⟨rfl, by decide, by decide⟩ hY F (fun _ _ a ns hl _ hS => ⟨a, ns, rfl, hS, hl, fun _ => rfl⟩) fun _ _ _ _ _ z => z
end PA

open PySem PySem.W PyProof.Rows
set_option maxRecDepth 100000 in
set_option maxHeartbeats 0 in
theorem PySem.Challenge.cw_pairahead_k54_whole_rival_by_pairs_holds : PySem.Challenge.rw_pairahead_k54_whole_rival_by_pairs.Holds := by
  w_on; o_law; k_head; (case hw => w_witness2)
  k_fill
  refine PA.walk_ (l := PySem.Challenge.rw_pairahead_k54_whole_rival_by_pairs) rfl rfl (fun w h Y => PySem.W.kIn_of Y) ?F
  case F =>
    intro w mg fa h KX G hmg
    refine' PA.all_mk KX G hmg ?aC ?pgC ?hdC ?poC ?saC ?kcC ?mkC ?nCnames ?nCcost ?zisinstance ?zint ?zbool ?zlist ?ztuple ?zlen ?zall ?zzip ?zrange ?zsum ?aInit ?lInit ?cInit ?kInit ?iInit ?ap ?gp ?tp ?aOrder ?lOrder ?cOrder ?kOrder ?aCall ?lCall ?cCall ?kCall ?iCall ?lT ?aExch ?lExch ?cExch ?kExch ?iExch ?aPut ?lPut ?cPut ?kPut ?iPut ?aDrop ?lDrop ?cDrop ?kDrop ?iDrop ?aPlace ?lPlace ?cPlace ?kPlace ?iPlace ?adraw ?ldraw ?cdraw ?kdraw ?astart ?lstart ?cstart ?kstart ?apick ?lpick ?cpick ?kpick ?amixed ?lmixed ?cmixed ?kmixed ?asame ?lsame ?csame ?ksame ?anames ?lnames ?cnames ?knames ?amoved ?lmoved ?cmoved ?kmoved ?aLaw ?lLaw ?cLaw ?kLaw
    (case aC => k_is)
    (case pgC => k_is)
    (case hdC => k_is)
    (case poC => k_is)
    (case saC => k_is)
    (case kcC => k_is)
    (case mkC => k_is)
    (case nCnames => k_is)
    (case nCcost => k_is)
    (case zisinstance => k_is)
    (case zint => k_is)
    (case zbool => k_is)
    (case zlist => k_is)
    (case ztuple => k_is)
    (case zlen => k_is)
    (case zall => k_is)
    (case zzip => k_is)
    (case zrange => k_is)
    (case zsum => k_is)
    (case aInit => k_is)
    (case lInit => k_is)
    (case cInit => k_is)
    (case kInit => k_is)
    (case iInit => k_is)
    (case ap => k_is)
    (case gp => k_is)
    (case tp => k_is)
    (case aOrder => k_is)
    (case lOrder => k_is)
    (case cOrder => k_is)
    (case kOrder => k_is)
    (case aCall => k_is)
    (case lCall => k_is)
    (case cCall => k_is)
    (case kCall => k_is)
    (case iCall => k_is)
    (case lT => k_is)
    (case aExch => k_is)
    (case lExch => k_is)
    (case cExch => k_is)
    (case kExch => k_is)
    (case iExch => k_is)
    (case aPut => k_is)
    (case lPut => k_is)
    (case cPut => k_is)
    (case kPut => k_is)
    (case iPut => k_is)
    (case aDrop => k_is)
    (case lDrop => k_is)
    (case cDrop => k_is)
    (case kDrop => k_is)
    (case iDrop => k_is)
    (case aPlace => k_is)
    (case lPlace => k_is)
    (case cPlace => k_is)
    (case kPlace => k_is)
    (case iPlace => k_is)
    (case adraw => k_is)
    (case ldraw => k_is)
    (case cdraw => k_is)
    (case kdraw => k_is)
    (case astart => k_is)
    (case lstart => k_is)
    (case cstart => k_is)
    (case kstart => k_is)
    (case apick => k_is)
    (case lpick => k_is)
    (case cpick => k_is)
    (case kpick => k_is)
    (case amixed => k_is)
    (case lmixed => k_is)
    (case cmixed => k_is)
    (case kmixed => k_is)
    (case asame => k_is)
    (case lsame => k_is)
    (case csame => k_is)
    (case ksame => k_is)
    (case anames => k_is)
    (case lnames => k_is)
    (case cnames => k_is)
    (case knames => k_is)
    (case amoved => k_is)
    (case lmoved => k_is)
    (case cmoved => k_is)
    (case kmoved => k_is)
    (case aLaw => k_is)
    (case lLaw => k_is)
    (case cLaw => k_is)
    (case kLaw => k_is)
#print axioms PySem.Challenge.cw_pairahead_k54_whole_rival_by_pairs_holds
