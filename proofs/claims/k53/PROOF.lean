import PyProof.Rows.All
import Wide.All
import OpenK.AllK
import Wide.FinOn
import HandS.ForMost
import HandS.IsInst
import HandS.Zip
import HandS.Wide
import HandS.Codes
import HandS.Evl
import HandS.Conv
import HandS.Defaults
import HandS.MakeKw
import HandS.Walk
import HandS.TupAny
import HandS.Words
import HandS.WordsList
import PySem.Challenge.RW_pairahead_k53_rivals_refused
import HandS.Property
import HandS.More
import HandS.Style
import HandS.TupLe
import HandS.ExcInit
import HandS.ExcSuper
import KE.KExcSuper
import KE.KSuper
import HandS.ClsMeth
import HandS.FStr
import HandS.WordsExc
import HandS.Exc
import HandS.TryMany
import HandS.ExcField
set_option Elab.async false
set_option linter.all false
set_option maxRecDepth 100000
set_option maxHeartbeats 2000000
/-! what serves every row -/
namespace L2
open PySem PySem.Spec PyProof.Rows
theorem PI.or {X : Cx} {tg l : Expr} {w1 w2 : TI} (h1 : PI X tg l w1) (h2 : PI X tg l w2) : PI X tg l (fun σ H R => w1 σ H R ∨ w2 σ H R) :=
  ⟨fun pins s σ H R I h => h.elim (h1.run pins s σ H R I) (h2.run pins s σ H R I)⟩
/-- a list or a tuple -/
def Sq (K : PySem.W.Frag) (H : Hp) (a : Addr) (xs : List V) : Prop := SqL K H a xs ∨ SqT K H a xs
theorem SqT.up {K : PySem.W.Frag} {H H' : Hp} {a : Addr} {xs : List V} (h : SqT K H a xs) (e : Same H H') : SqT K H' a xs :=
  h.elim (fun h => .inl (h.elim (fun h => .inl (e _ _ h)) fun ⟨o, h⟩ => .inr ⟨o, e _ _ h⟩)) fun h => .inr h
theorem SqL.up {K : PySem.W.Frag} {H H' : Hp} {a : Addr} {xs : List V} (h : SqL K H a xs) (e : Same H H') : SqL K H' a xs :=
  h.elim (fun h => .inl (h.elim (fun h => .inl (e _ _ h)) fun ⟨o, h⟩ => .inr ⟨o, e _ _ h⟩)) fun h => .inr h
theorem Sq.up {K : PySem.W.Frag} {H H' : Hp} {a : Addr} {xs : List V} (h : Sq K H a xs) (e : Same H H') : Sq K H' a xs := h.imp (fun h => SqL.up h e) fun h => SqT.up h e
theorem walk_l {K : PySem.W.Frag} {a : Addr} {xs : List V} : Walk (Itl K a) xs.length (fun H => SqL K H a xs) (YAt xs) :=
  ⟨fun i H hi q => ⟨xs, xs[i], q, by simp [hi]⟩, fun H q => ⟨xs, q, Nat.le_refl _⟩, fun i H x H' hi q y => ⟨y.1, y.2 xs q⟩⟩
theorem walk_t {K : PySem.W.Frag} {a : Addr} {xs : List V} : Walk (Itt K a) xs.length (fun H => SqT K H a xs) (YAt xs) :=
  ⟨fun i H hi q => ⟨xs, xs[i], q, by simp [hi]⟩, fun H q => ⟨xs, q, Nat.le_refl _⟩, fun i H x H' hi q y => ⟨y.1, y.2 xs q⟩⟩
/-- how a value that is a list or a tuple of xs stands, as one of the two -/
inductive Kind where
  | l | t
def Sk (K : PySem.W.Frag) (k : Kind) (H : Hp) (a : Addr) (xs : List V) : Prop := match k with
  | .l => SqL K H a xs
  | .t => SqT K H a xs
theorem Sk.sq {K : PySem.W.Frag} {k : Kind} {H : Hp} {a : Addr} {xs : List V} (h : Sk K k H a xs) : Sq K H a xs := by
  cases k
  · exact .inl h
  · exact .inr h
theorem Sk.up {K : PySem.W.Frag} {k : Kind} {H H' : Hp} {a : Addr} {xs : List V} (h : Sk K k H a xs) (e : Same H H') : Sk K k H' a xs := by
  cases k
  · exact SqL.up h e
  · exact SqT.up h e
theorem Sq.kind {K : PySem.W.Frag} {H : Hp} {a : Addr} {xs : List V} (h : Sq K H a xs) : ∃ k, Sk K k H a xs := h.elim (fun h => ⟨.l, h⟩) fun h => ⟨.t, h⟩
def ItSq (K : PySem.W.Frag) (k : Kind) (a : Addr) : It := match k with
  | .l => Itl K a
  | .t => Itt K a
theorem walk_k {K : PySem.W.Frag} {k : Kind} {a : Addr} {xs : List V} : Walk (ItSq K k a) xs.length (fun H => Sk K k H a xs) (YAt xs) := by
  cases k
  · exact walk_l
  · exact walk_t
/-- a walk over a list or a tuple -/
def iSq (K : PySem.W.Frag) (tl : TE) : TI := fun σ H R => ∃ k : Kind, tl σ H fun x H1 => ∃ a, x = .ref a ∧ (∃ xs, Sk K k H1 a xs) ∧ R (ItSq K k a) H1
theorem pi_sq {X : Cx} {tg l : Expr} {tl : TE} (hl : PE X l tl) : PI X tg l (iSq X.K tl) := by
  refine ⟨fun pins s σ H R I ⟨k, h⟩ => ?_⟩
  cases k
  · exact (pi_list hl).run pins s σ H R I h
  · exact (pi_tup hl).run pins s σ H R I h
/-! ### comprehensions -/
section
variable {J : It} {n : Nat} {G : Hp → Prop} {xs : List V} {g : TG} {tt : TT} {te : TE} {vs : List Nat} {σ : L2.St} {H1 : Hp} {D : Addr} {Qd : Hp → Prop}
theorem new_ {H : Hp} {p : Addr} {o : HO} (hp : H p = none) : Same H (upd H p o) := fun b u e => by
  rw [upd_ne (ne_of_none e hp)]
  exact e
/-- all but D is as it was -/
def But (D : Addr) (H H' : Hp) : Prop := ∀ c o, c ≠ D → H c = some o → H' c = some o
/-- the values are made one after another, the heap of before stays -/
theorem lc_acc (w : Walk J n G (YAt xs)) (hn : n ≤ sizeLine) (hD : H1 D = none) (hG : ∀ H, Same H1 H → G H) (A : Nat → List V → Hp → Prop) (hl : ∀ i acc H, A i acc H → acc.length ≤ i) (A0 : A 0 [] (upd H1 D (.lst [])))
    (hs : ∀ (i : Nat) (x : V) (H : Hp) (acc : List V) (Φ : V → Hp → Prop) (Ψ : Hp → Prop), i < n → xs[i]? = some x → Same H1 H → H D = some (.lst acc) → A i acc H →
      (∀ y H4, Same H H4 → H4 D = some (.lst acc) → (∀ H5, H5 D = some (.lst (acc ++ [y])) → But D H4 H5 → But D H5 H4 → A (i + 1) (acc ++ [y]) H5) → Φ y H4) →
      g x (wipe σ vs) H fun σ2 H2 => wipe σ2 vs = wipe σ vs ∧ tt σ2 H2 fun b H3 => if b = true then te σ2 H3 Φ else Ψ H3)
    (hd : ∀ H acc, Same H1 H → H D = some (.lst acc) → A n acc H → Qd H) :
    ∃ W : Nat → Nat → Hp → Prop, (∃ m, W 0 m (upd H1 D (.lst []))) ∧ ∀ i m H, W i m H →
      (J.stop i H ∧ Qd H) ∨ (J.go i H ∧ ∃ Nx : Hp → Prop, (∀ H', Nx H' → ∃ m', m' < m ∧ W (i + 1) m' H') ∧ ∀ x H', J.yld i H x H' → g x (wipe σ vs) H' fun σ2 H2 => wipe σ2 vs = wipe σ vs ∧ tt σ2 H2 fun b H3 =>
        if b = true then te σ2 H3 fun y H4 => ∃ acc, H4 D = some (.lst acc) ∧ acc.length < sizeLine ∧ Nx (upd H4 D (.lst (acc ++ [y]))) else Nx H3) := by
  refine lc_it w (fun i H => Same H1 H ∧ ∃ acc, H D = some (.lst acc) ∧ A i acc H) ⟨new_ hD, [], upd_same, A0⟩ (fun i H _ p => hG H p.1) (fun i x H H' hi p y => ?_) fun H p => ?_
  · obtain ⟨rfl, hx⟩ := y
    obtain ⟨sm, acc, hd', ha⟩ := p
    refine hs i x _ acc _ _ hi hx sm hd' ha fun y H4 s4 d4 k => ⟨acc, d4, Nat.lt_of_lt_of_le (Nat.lt_of_le_of_lt (hl _ _ _ ha) hi) hn, fun c o e => ?_, acc ++ [y], upd_same, k _ upd_same (fun c o cd e => ?_) fun c o cd e => ?_⟩
    · rw [upd_ne (ne_of_none e hD)]
      exact s4 _ _ (sm _ _ e)
    · rw [upd_ne cd]
      exact e
    · rw [upd_ne cd] at e
      exact e
  · obtain ⟨sm, acc, hd', ha⟩ := p
    exact hd H acc sm hd' ha
/-- values that do not hang on the heap -/
theorem lc_same (w : Walk J n G (YAt xs)) (hn : n ≤ sizeLine) (hD : H1 D = none) (hG : ∀ H, Same H1 H → G H) (ys : List V) (hy : ys.length = n)
    (hs : ∀ (i : Nat) (x y : V) (H : Hp) (Φ : V → Hp → Prop) (Ψ : Hp → Prop), xs[i]? = some x → ys[i]? = some y → Same H1 H → (∀ H4, Same H H4 → Φ y H4) →
      g x (wipe σ vs) H fun σ2 H2 => wipe σ2 vs = wipe σ vs ∧ tt σ2 H2 fun b H3 => if b = true then te σ2 H3 Φ else Ψ H3)
    (hd : ∀ H, Same H1 H → H D = some (.lst ys) → Qd H) :
    ∃ W : Nat → Nat → Hp → Prop, (∃ m, W 0 m (upd H1 D (.lst []))) ∧ ∀ i m H, W i m H →
      (J.stop i H ∧ Qd H) ∨ (J.go i H ∧ ∃ Nx : Hp → Prop, (∀ H', Nx H' → ∃ m', m' < m ∧ W (i + 1) m' H') ∧ ∀ x H', J.yld i H x H' → g x (wipe σ vs) H' fun σ2 H2 => wipe σ2 vs = wipe σ vs ∧ tt σ2 H2 fun b H3 =>
        if b = true then te σ2 H3 fun y H4 => ∃ acc, H4 D = some (.lst acc) ∧ acc.length < sizeLine ∧ Nx (upd H4 D (.lst (acc ++ [y]))) else Nx H3) := by
  refine lc_acc w hn hD hG (fun i acc _ => acc = ys.take i) (fun i acc H e => by rw [e, List.length_take]; omega) (by rw [List.take_zero]) (fun i x H acc Φ Ψ hi hx sm hd' ha k => ?_) fun H acc sm hd' ha => hd H sm ?_
  · have hi' : i < ys.length := by omega
    have ey : ys[i]? = some ys[i] := List.getElem?_eq_getElem hi'
    refine hs i x ys[i] H Φ Ψ hx ey sm fun H4 s4 => k _ H4 s4 (s4 _ _ hd') fun H5 _ _ _ => ?_
    rw [ha, List.take_add_one, ey]
    rfl
  · rw [hd', ha, ← hy, List.take_length]
end
/-! ### x in an instance with the own method -/
section
variable {X : Cx} {CX : CXT} {k : Nat} {C f : Addr} {fd : FuncData} {ps : List Str} {sp : Sp} {E : XK}
theorem op_inOwn (hs : PySem.W.findIn X.K (.ref C) "__contains__" = some (some (.ref f))) (hf : PySem.W.isFn X.K (.ref f) = true) (F : FnOk X.prog X.w X.K X.mg X.base CX k f fd ps sp) (hr : Room k X.A) (hb : Binds X.K fd ps []) (hx : Passes CX X E) :
    OpR X (compareOp .In) (fun x y H Q => ∃ a dx fs, y = .ref a ∧ H a = some (.ins C dx fs) ∧ sp [.ref a, x] H (fun v H' => ∃ b, v = .bl b ∧ Q (.bl b) H') E) := by
  intro pins s σ H x y v u Q I rx ry h
  obtain ⟨a, dx, fs, rfl, ha, q⟩ := h
  cases ry
  obtain ⟨mA, J, _⟩ := ins_get I.hok ha
  obtain ⟨od, J, _⟩ := J.look
  obtain ⟨m, hF⟩ := I.fr
  refine PySem.W.in_K hF I.ok.mod.kin J hs hf ?_
  refine wpAny_mono (run_fn (us := [.ref a, v]) (vs := [.ref a, x]) F hr hb .nil hx I (.cons rfl (.cons rx .nil)) q) (fun w s' z => ?_) fun _ _ z => z
  obtain ⟨v', H', I', rv, b, rfl, q'⟩ := z
  cases rv
  exact wpAny_truthy_bool ⟨.bl b, H', I', rfl, q'⟩
theorem op_notInOwn (hs : PySem.W.findIn X.K (.ref C) "__contains__" = some (some (.ref f))) (hf : PySem.W.isFn X.K (.ref f) = true) (F : FnOk X.prog X.w X.K X.mg X.base CX k f fd ps sp) (hr : Room k X.A) (hb : Binds X.K fd ps []) (hx : Passes CX X E) :
    OpR X (compareOp .NotIn) (fun x y H Q => ∃ a dx fs, y = .ref a ∧ H a = some (.ins C dx fs) ∧ sp [.ref a, x] H (fun v H' => ∃ b, v = .bl b ∧ Q (.bl (!b)) H') E) := by
  intro pins s σ H x y v u Q I rx ry h
  obtain ⟨a, dx, fs, rfl, ha, q⟩ := h
  cases ry
  obtain ⟨mA, J, _⟩ := ins_get I.hok ha
  obtain ⟨od, J, _⟩ := J.look
  obtain ⟨m, hF⟩ := I.fr
  refine PySem.W.notIn_K hF I.ok.mod.kin J hs hf ?_
  refine wpAny_mono (run_fn (us := [.ref a, v]) (vs := [.ref a, x]) F hr hb .nil hx I (.cons rfl (.cons rx .nil)) q) (fun w s' z => ?_) fun _ _ z => z
  obtain ⟨v', H', I', rv, b, rfl, q'⟩ := z
  cases rv
  exact wpAny_truthy_bool ⟨.bl (!b), H', I', rfl, q'⟩
end
end L2

set_option maxHeartbeats 2000000
namespace L2
open PySem PySem.Spec PyProof.Rows RZ
/-! ### zip, slices of lists and tuples -/
theorem walk_zipT {K : PySem.W.Frag} {a b : Addr} {xs ys : List V} {n : Nat} (hn : n = min xs.length ys.length) : Walk (ItzT K a b) n (fun H => SqT K H a xs ∧ SqT K H b ys) (YPair (fun i => xs[i]?) (fun i => ys[i]?)) :=
  ⟨fun i H hi q => ⟨xs, ys, xs[i]'(by omega), ys[i]'(by omega), q.1, q.2, List.getElem?_eq_getElem _, List.getElem?_eq_getElem _⟩,
    fun H q => ⟨xs, ys, q.1, q.2, by omega⟩, fun i H v H' hi q y => by
      obtain ⟨T, x, y', rfl, hT, rfl, f1, f2⟩ := y
      exact ⟨T, x, y', rfl, hT, rfl, f1 xs q.1, f2 ys q.2⟩⟩
def ItZk (K : PySem.W.Frag) (k : Kind) (a b : Addr) : It := match k with
  | .l => Itz K a b
  | .t => ItzT K a b
theorem walk_zk {K : PySem.W.Frag} {k : Kind} {a b : Addr} {xs ys : List V} {n : Nat} (hn : n = min xs.length ys.length) : Walk (ItZk K k a b) n (fun H => Sk K k H a xs ∧ Sk K k H b ys) (YPair (fun i => xs[i]?) (fun i => ys[i]?)) := by
  cases k
  · exact walk_zip hn
  · exact walk_zipT hn
theorem zip_k {K : PySem.W.Frag} {k : Kind} {H : Hp} {a b : Addr} {xs ys : List V} {R : It → Hp → Prop} (ha : Sk K k H a xs) (hb : Sk K k H b ys) (h : R (ItZk K k a b) H) :
    (SqL K H a xs ∧ SqL K H b ys ∧ R (Itz K a b) H) ∨ (SqT K H a xs ∧ SqT K H b ys ∧ R (ItzT K a b) H) := by
  cases k
  · exact .inl ⟨ha, hb, h⟩
  · exact .inr ⟨ha, hb, h⟩
theorem cut_all {xs : List V} {lo hi : Option Int} (h : HT.sIx xs.length 0 lo = 0 ∧ HT.sIx xs.length xs.length hi = xs.length) : cutV xs lo hi = xs := by
  unfold cutV
  rw [h.1, h.2, List.drop_zero, Nat.sub_zero, List.take_length]
theorem sl_k {K : PySem.W.Frag} {k : Kind} {H : Hp} {a : Addr} {xs : List V} {lo hi : Option Int} {Q : V → Hp → Prop} (ha : Sk K k H a xs) (h : ∀ p H', Same H H' → Sk K k H' p (cutV xs lo hi) → Q (.ref p) H') :
    rSlL K (.ref a) lo hi H Q ∨ rSlA K (.ref a) lo hi H Q := by
  cases k
  · exact .inl ⟨a, xs, rfl, ha, fun p hp => h p _ (new_ hp) (SqL.of upd_same)⟩
  · exact .inr ⟨a, xs, rfl, ha, fun w => h a H (fun _ _ e => e) (by rw [cut_all w]; exact ha), fun _ p hp => h p _ (new_ hp) (SqT.of upd_same)⟩
theorem cut_1 (xs : List V) : cutV xs (some (1 : Int)) none = xs.drop 1 := by
  unfold cutV
  rw [show (1 : Int) = ((1 : Nat) : Int) from rfl, HT.sIx_nat, HT.sIx_none]
  rcases Nat.eq_zero_or_pos xs.length with h | h
  · have : xs = [] := List.length_eq_zero_iff.mp h
    subst this
    rfl
  · rw [Nat.min_eq_left h, List.take_of_length_le (by rw [List.length_drop]; exact Nat.le_refl _)]
theorem cut_to (xs : List V) (n : Nat) : cutV xs none (some (n : Int)) = xs.take n := by
  unfold cutV
  rw [HT.sIx_nat, HT.sIx_none, List.drop_zero, Nat.sub_zero]
  rcases Nat.le_total n xs.length with h | h
  · rw [Nat.min_eq_left h]
  · rw [Nat.min_eq_right h, List.take_length, List.take_of_length_le h]
/-! ### small words -/
theorem take_succ' {α : Type} {l : List α} {i : Nat} {x : α} (h : l[i]? = some x) : l.take (i + 1) = l.take i ++ [x] := by
  rw [List.take_add_one, h]
  rfl
theorem ifD_no {p A B : Prop} [Decidable p] (h : ¬ p) (q : B) : if decide p = true then A else B := by
  rw [decide_eq_false h]
  exact iteF q
theorem ifD_yes {p A B : Prop} [Decidable p] (h : p) (q : A) : if decide p = true then A else B := by
  rw [decide_eq_true h]
  exact iteT q
theorem ifD_2 {p A B : Prop} [Decidable p] (h1 : p → A) (h2 : ¬ p → B) : if decide p = true then A else B := by
  by_cases h : p
  · exact ifD_yes h (h1 h)
  · exact ifD_no h (h2 h)
theorem ifB_2 {b : Bool} {A B : Prop} (h1 : b = true → A) (h2 : b = false → B) : if b = true then A else B := by
  cases b
  · exact iteF (h2 rfl)
  · exact iteT (h1 rfl)
theorem Same.none {H H' : Hp} {x : Addr} (s : Same H H') (h : H' x = Option.none) : H x = Option.none := by
  cases e : H x with
  | none => rfl
  | some o => rw [s _ _ e] at h; cases h
theorem all_true (n : Nat) : (List.replicate n true).all id = true := by
  rw [List.all_eq_true]
  intro x hx
  rw [(List.mem_replicate.mp hx).2]
  rfl
theorem boot_isi : bootBuiltins "isinstance" = some (.builtin "isinstance") := by decide +kernel
theorem boot_int' : bootBuiltins "int" = some (.type "int") := by decide +kernel
theorem boot_bool' : bootBuiltins "bool" = some (.type "bool") := by decide +kernel
theorem boot_tuple' : bootBuiltins "tuple" = some (.type "tuple") := by decide +kernel
theorem boot_list' : bootBuiltins "list" = some (.type "list") := by decide +kernel
theorem boot_all' : bootBuiltins "all" = some (.builtin "all") := by decide +kernel
structure Df (K : PySem.W.Frag) (mg : Str → Option Value) (x : Str) (st : Stmt) (f : Addr) (fd : FuncData) (ps : List Str) : Prop where
  F : Fun K x x st f fd
  B : Binds K fd ps []
  M : mg x = some (.ref f)
def rTupK (K : PySem.W.Frag) : List V → Hp → (V → Hp → Prop) → Prop := fun xs H Q => ∃ p ys, xs = [.ref p] ∧ ((SqL K H p ys ∧ ∀ l, H l = none → Q (.ref l) (upd H l (.tup ys))) ∨ (SqT K H p ys ∧ Q (.ref p) H))
theorem call_tupleK {X : Cx} {K : PySem.W.Frag} (h : X.K = K) : CallR X (.type "tuple") (rTupK K) := h ▸ call_tuple_of
def rLstK (K : PySem.W.Frag) : List V → Hp → (V → Hp → Prop) → Prop := fun xs H Q => ∃ p ys, xs = [.ref p] ∧ (SqL K H p ys ∨ SqT K H p ys) ∧ ∀ l, H l = none → Q (.ref l) (upd H l (.lst ys))
theorem call_listK {X : Cx} {K : PySem.W.Frag} (h : X.K = K) : CallR X (.type "list") (rLstK K) := h ▸ call_list_of
def rLenK (K : PySem.W.Frag) : List V → Hp → (V → Hp → Prop) → Prop := fun xs H Q => ∃ p ys, xs = [.ref p] ∧ (SqL K H p ys ∨ SqT K H p ys) ∧ Q (.int ys.length) H
theorem call_lenK {X : Cx} {K : PySem.W.Frag} (h : X.K = K) : CallR X (.builtin "len") (rLenK K) := h ▸ call_len_seq
def rIxTK (K : PySem.W.Frag) : R2 := fun x y H Q => ∃ p xs i v, x = .ref p ∧ y = .int i ∧ SqT K H p xs ∧ atI xs i = some v ∧ Q v H
theorem ix_tupK {X : Cx} {K : PySem.W.Frag} (h : X.K = K) : IxR X (rIxTK K) := h ▸ ix_tup
/-! ### what stands at each place of a list of references -/
def Ea {α : Type} (H : Hp) (P : Hp → Addr → α → Prop) (xs : List V) (ds : List α) : Prop := xs.length = ds.length ∧ ∀ (i : Nat) (x : V) (r : α), xs[i]? = some x → ds[i]? = some r → ∃ c, x = .ref c ∧ P H c r
section
variable {α : Type} {H H' : Hp} {P P' : Hp → Addr → α → Prop} {xs ys : List V} {ds es : List α} {c : Addr} {r : α}
theorem Ea.imp (e : Ea H P xs ds) (f : ∀ c r, P H c r → P' H' c r) : Ea H' P' xs ds := ⟨e.1, fun i x r h1 h2 => let ⟨c, hx, q⟩ := e.2 i x r h1 h2; ⟨c, hx, f c r q⟩⟩
theorem Ea.nil : Ea H P [] [] := ⟨rfl, fun i x r h _ => by simp at h⟩
theorem Ea.append (e : Ea H P xs ds) (e' : Ea H P ys es) : Ea H P (xs ++ ys) (ds ++ es) := by
  refine ⟨by rw [List.length_append, List.length_append, e.1, e'.1], fun i x r h1 h2 => ?_⟩
  rcases Nat.lt_or_ge i xs.length with hi | hi
  · rw [List.getElem?_append_left hi] at h1
    rw [List.getElem?_append_left (by rw [← e.1]; exact hi)] at h2
    exact e.2 i x r h1 h2
  · rw [List.getElem?_append_right hi] at h1
    rw [List.getElem?_append_right (by rw [← e.1]; exact hi), ← e.1] at h2
    exact e'.2 _ x r h1 h2
theorem Ea.one (q : P H c r) : Ea H P [.ref c] [r] := by
  refine ⟨rfl, fun i x r' h1 h2 => ?_⟩
  match i, h1, h2 with
  | 0, h1, h2 =>
    cases h1
    cases h2
    exact ⟨c, rfl, q⟩
  | (j + 1), h1, _ => simp at h1
theorem Ea.push (e : Ea H P xs ds) (q : P H c r) : Ea H P (xs ++ [.ref c]) (ds ++ [r]) := e.append (.one q)
theorem Ea.get (e : Ea H P xs ds) {i : Nat} {r : α} (h : ds[i]? = some r) : ∃ c, xs[i]? = some (.ref c) ∧ P H c r := by
  have hi : i < xs.length := by rw [e.1]; exact (List.getElem?_eq_some_iff.mp h).1
  obtain ⟨c, hc, q⟩ := e.2 i _ r (List.getElem?_eq_getElem hi) h
  exact ⟨c, by rw [List.getElem?_eq_getElem hi, hc], q⟩
theorem Ea.at_ (e : Ea H P xs ds) {i : Nat} {x : V} (h : xs[i]? = some x) : ∃ c r, x = .ref c ∧ ds[i]? = some r ∧ P H c r := by
  have hi : i < ds.length := by rw [← e.1]; exact (List.getElem?_eq_some_iff.mp h).1
  obtain ⟨c, hc, q⟩ := e.2 i _ _ h (List.getElem?_eq_getElem hi)
  exact ⟨c, _, hc, List.getElem?_eq_getElem hi, q⟩
end
/-- a tuple at c of what r is written as -/
def TupOf {α : Type} (f : α → List V) (H : Hp) (c : Addr) (r : α) : Prop := H c = some (.tup (f r))
section
variable {α : Type} {f : α → List V} {H H' : Hp} {xs : List V} {ds : List α} {c p C dx : Addr} {r : α}
theorem TupOf.lst {ys zs : List V} (q : TupOf f H c r) (hD : H p = some (.lst ys)) : TupOf f (upd H p (.lst zs)) c r := by
  unfold TupOf
  rw [upd_ne (ne_of (H := H) q hD (by intro z; cases z))]
  exact q
theorem TupOf.ins {fs : List (Str × V)} {o : HO} (q : TupOf f H c r) (hp : H p = some (.ins C dx fs)) : TupOf f (upd H p o) c r := by
  unfold TupOf
  rw [upd_ne (ne_of (H := H) q hp (by intro z; cases z))]
  exact q
theorem TupOf.but {ys : List V} (q : TupOf f H c r) (hD : H p = some (.lst ys)) (b : But p H H') : TupOf f H' c r := b _ _ (ne_of (H := H) q hD (by intro z; cases z)) q
theorem Ea.same (e : Ea H (TupOf f) xs ds) (s : Same H H') : Ea H' (TupOf f) xs ds := e.imp fun c r q => s _ _ q
end
end L2

set_option maxHeartbeats 2000000
namespace PA
/-- below 2 ^ n in size -/
abbrev Sm (n : Nat) (x : Int) : Prop := x.natAbs < 2 ^ n
theorem Sm.mono {n m : Nat} {x : Int} (h : Sm n x) (hn : n ≤ m) : Sm m x := Nat.lt_of_lt_of_le h (Nat.pow_le_pow_right (by decide) hn)
theorem Sm.mul {n m k : Nat} {x y : Int} (hx : Sm n x) (hy : Sm m y) (h : n + m ≤ k) : Sm k (x * y) := by
  refine Sm.mono (n := n + m) ?_ h
  unfold Sm
  rw [Int.natAbs_mul, Nat.pow_add]
  exact Nat.mul_lt_mul'' hx hy
theorem Sm.add {n k : Nat} {x y : Int} (hx : Sm n x) (hy : Sm n y) (h : n + 1 ≤ k) : Sm k (x + y) := by
  refine Sm.mono (n := n + 1) ?_ h
  unfold Sm at *
  rw [Nat.pow_succ]
  omega
theorem Sm.sub {n k : Nat} {x y : Int} (hx : Sm n x) (hy : Sm n y) (h : n + 1 ≤ k) : Sm k (x - y) := by
  refine Sm.mono (n := n + 1) ?_ h
  unfold Sm at *
  rw [Nat.pow_succ]
  omega
theorem Sm.neg {n : Nat} {x : Int} (hx : Sm n x) : Sm n (-x) := by
  unfold Sm at *
  rw [Int.natAbs_neg]
  exact hx
theorem Sm.le {n : Nat} {x y : Int} (hx : Sm n x) (h : y.natAbs ≤ x.natAbs) : Sm n y := Nat.lt_of_le_of_lt h hx
theorem Sm.one {n : Nat} (h : 0 < n) : Sm n 1 := by
  show (1 : Int).natAbs < 2 ^ n
  exact Nat.one_lt_two_pow (by omega)

/-- the divisor that a Ratio shortens by -/
def shr (t b : Int) : Int := if b < 0 then -((Nat.gcd t.natAbs b.natAbs : Nat) : Int) else ((Nat.gcd t.natAbs b.natAbs : Nat) : Int)
/-- lowest terms -/
structure Low (T B : Int) : Prop where
  pos : 0 < B
  cop : Nat.gcd T.natAbs B.natAbs = 1
theorem low_one (i : Int) : Low i 1 := ⟨by decide, Nat.gcd_one_right _⟩
theorem gcd_key {a b c d g : Nat} (h1 : a = c * g) (h2 : b = d * g) : Nat.gcd a b = Nat.gcd c d * g := by
  rw [h1, h2]
  exact Nat.gcd_mul_right _ _ _
theorem rat_mk {t b : Int} (hb : b ≠ 0) : shr t b ≠ 0 ∧ (shr t b).natAbs ≤ b.natAbs ∧ Low (t.fdiv (shr t b)) (b.fdiv (shr t b)) ∧ (t.fdiv (shr t b)) * b = t * (b.fdiv (shr t b)) ∧
    (t.fdiv (shr t b)).natAbs ≤ t.natAbs ∧ (b.fdiv (shr t b)).natAbs ≤ b.natAbs := by
  have hg : 0 < Nat.gcd t.natAbs b.natAbs := Nat.gcd_pos_of_pos_right _ (Int.natAbs_pos.mpr hb)
  have hgb : Nat.gcd t.natAbs b.natAbs ≤ b.natAbs := Nat.gcd_le_right _ (Int.natAbs_pos.mpr hb)
  have hsn : (shr t b).natAbs = Nat.gcd t.natAbs b.natAbs := by
    unfold shr
    split
    · rw [Int.natAbs_neg, Int.natAbs_natCast]
    · rw [Int.natAbs_natCast]
  have hs0 : shr t b ≠ 0 := by
    intro z
    rw [z] at hsn
    simp at hsn
    omega
  have dv : ∀ y : Int, (Nat.gcd t.natAbs b.natAbs) ∣ y.natAbs → ∃ q : Int, y = q * shr t b := by
    intro y hy
    have h1 : ((Nat.gcd t.natAbs b.natAbs : Nat) : Int) ∣ y := Int.ofNat_dvd_left.mpr hy
    obtain ⟨q, hq⟩ := h1
    unfold shr
    split
    · exact ⟨-q, by rw [Int.neg_mul_neg, Int.mul_comm]; exact hq⟩
    · exact ⟨q, by rw [Int.mul_comm]; exact hq⟩
  obtain ⟨T, hT⟩ := dv t (Nat.gcd_dvd_left _ _)
  obtain ⟨B, hB⟩ := dv b (Nat.gcd_dvd_right _ _)
  have eT : t.fdiv (shr t b) = T := by
    conv => lhs; lhs; rw [hT]
    exact Int.mul_fdiv_cancel _ hs0
  have eB : b.fdiv (shr t b) = B := by
    conv => lhs; lhs; rw [hB]
    exact Int.mul_fdiv_cancel _ hs0
  rw [eT, eB]
  have nT : t.natAbs = T.natAbs * Nat.gcd t.natAbs b.natAbs := by
    conv => lhs; rw [hT, Int.natAbs_mul, hsn]
  have nB : b.natAbs = B.natAbs * Nat.gcd t.natAbs b.natAbs := by
    conv => lhs; rw [hB, Int.natAbs_mul, hsn]
  refine ⟨hs0, by rw [hsn]; exact hgb, ⟨?_, ?_⟩, ?_, ?_, ?_⟩
  · have hB0 : B ≠ 0 := by
      intro z
      rw [z, Int.zero_mul] at hB
      exact hb hB
    rcases Int.lt_or_gt_of_ne hB0 with h | h
    · exfalso
      unfold shr at hB
      split at hB
      · rename_i hneg
        have : 0 < B * -((Nat.gcd t.natAbs b.natAbs : Nat) : Int) := Int.mul_pos_of_neg_of_neg h (by omega)
        omega
      · rename_i hneg
        have : B * ((Nat.gcd t.natAbs b.natAbs : Nat) : Int) < 0 := Int.mul_neg_of_neg_of_pos h (by omega)
        omega
    · exact h
  · have e : Nat.gcd t.natAbs b.natAbs = Nat.gcd T.natAbs B.natAbs * Nat.gcd t.natAbs b.natAbs := by
      exact gcd_key nT nB
    have e2 : 1 * Nat.gcd t.natAbs b.natAbs = Nat.gcd T.natAbs B.natAbs * Nat.gcd t.natAbs b.natAbs := by rw [Nat.one_mul]; exact e
    exact (Nat.eq_of_mul_eq_mul_right hg e2).symm
  · calc T * b = T * (B * shr t b) := by rw [← hB]
      _ = (T * shr t b) * B := by rw [Int.mul_comm B, ← Int.mul_assoc]
      _ = t * B := by rw [← hT]
  · rw [nT]; exact Nat.le_mul_of_pos_right _ hg
  · rw [nB]; exact Nat.le_mul_of_pos_right _ hg
/-- a fraction has one lowest form -/
theorem Low.uniq {T B T' B' : Int} (h : Low T B) (h' : Low T' B') (e : T * B' = T' * B) : T = T' ∧ B = B' := by
  have n : T.natAbs * B'.natAbs = T'.natAbs * B.natAbs := by rw [← Int.natAbs_mul, ← Int.natAbs_mul, e]
  have d1 : B.natAbs ∣ B'.natAbs := by
    have : B.natAbs ∣ T.natAbs * B'.natAbs := ⟨T'.natAbs, by rw [n, Nat.mul_comm]⟩
    exact (Nat.Coprime.symm h.cop).dvd_of_dvd_mul_left this
  have d2 : B'.natAbs ∣ B.natAbs := by
    have : B'.natAbs ∣ T'.natAbs * B.natAbs := ⟨T.natAbs, by rw [← n, Nat.mul_comm]⟩
    exact (Nat.Coprime.symm h'.cop).dvd_of_dvd_mul_left this
  have eB : B = B' := by
    have := Nat.dvd_antisymm d1 d2
    have p1 := h.pos
    have p2 := h'.pos
    omega
  subst eB
  have hB : B ≠ 0 := by have := h.pos; omega
  exact ⟨Int.eq_of_mul_eq_mul_right hB e, rfl⟩
theorem Low.neg {T B : Int} (h : Low T B) : Low (-T) B := ⟨h.pos, by rw [Int.natAbs_neg]; exact h.cop⟩
/-- a = n / d and b = n / d -/
theorem cross {a b n d x y : Int} (hb : b ≠ 0) (h1 : a * d = n * b) (h2 : n * y = x * d) (hd : d ≠ 0) : a * y = x * b := by
  have : (a * y) * d = (x * b) * d := by
    calc (a * y) * d = (a * d) * y := by rw [Int.mul_assoc, Int.mul_comm y, ← Int.mul_assoc]
      _ = (n * b) * y := by rw [h1]
      _ = (n * y) * b := by rw [Int.mul_assoc, Int.mul_comm b, ← Int.mul_assoc]
      _ = (x * d) * b := by rw [h2]
      _ = (x * b) * d := by rw [Int.mul_assoc, Int.mul_comm d, ← Int.mul_assoc]
  exact Int.eq_of_mul_eq_mul_right hd this
end PA

set_option maxHeartbeats 4000000
namespace PA
open PySem L2 RZ
open C8 (pss_cut tCut)
def top (i : Nat) : Stmt := PySem.Challenge.pw_pairahead_k53_rivals_refused.main.body.getD i (.Pass ⟨0, 0, 0, 0⟩)
abbrev sInit : Stmt := inClass (top 6) 0
abbrev sOrder : Stmt := inClass (top 6) 1
abbrev sHas : Stmt := inClass (top 6) 2
abbrev sLen : Stmt := inClass (top 6) 3
abbrev sCall : Stmt := inClass (top 6) 4
abbrev sExch : Stmt := inClass (top 6) 5
abbrev sPut : Stmt := inClass (top 6) 6
abbrev sDrop : Stmt := inClass (top 6) 7
abbrev sPlace : Stmt := inClass (top 6) 8
abbrev sDraw : Stmt := top 8
abbrev sStart : Stmt := top 9
abbrev sPick : Stmt := top 10
abbrev sMixed : Stmt := top 11
abbrev sSame : Stmt := top 12
abbrev sNames : Stmt := top 13
abbrev sPMove : Stmt := top 14
abbrev sLaw : Stmt := top 15
abbrev sENo : Stmt := inClass (top 2) 0
abbrev sEThere : Stmt := inClass (top 3) 0
abbrev sEMove : Stmt := inClass (top 4) 0
structure Txt (K : PySem.W.Frag) (mg : Str → Option Value) : Prop where
  isi : mg "isinstance" = none
  int_ : mg "int" = none
  bool_ : mg "bool" = none
  list_ : mg "list" = none
  tup_ : mg "tuple" = none
  len_ : mg "len" = none
  all_ : mg "all" = none
  zip_ : mg "zip" = none
  range_ : mg "range" = none
end PA

set_option maxHeartbeats 4000000
namespace PA
open PySem L2 RZ
open C8 (pss_cut tCut)
theorem atI_nat {α : Type} {xs : List α} {i : Nat} {x : α} (h : xs[i]? = some x) : atI xs (i : Int) = some x := by
  unfold atI
  rw [Evl.ixN_nat (List.getElem?_eq_some_iff.mp h).1]
  exact h
/-! ### data of ints -/
theorem ints_lay : ∀ ns : List Int, PyData.canLayAll0 (ns.map PyData.int) = true
  | [] => by simp [PyData.canLayAll0]
  | z :: zs => by simp [PyData.canLayAll0, PyData.canLay0, ints_lay zs]
theorem ints_depth : ∀ ns : List Int, PyData.depthAll (ns.map PyData.int) ≤ 2
  | [] => by simp [PyData.depthAll]
  | z :: zs => by
    have h1 := ints_depth zs
    simp only [List.map_cons, PyData.depthAll, PyData.depth]
    omega
theorem ints_shaped (ns : List Int) : SeqAt.shaped (.list (ns.map PyData.int)) = true := by
  have h1 := ints_depth ns
  have h2 : PyData.depth (.list (ns.map PyData.int)) ≤ 64 := by
    simp only [PyData.depth]
    omega
  show (PyData.canLay0 (.list (ns.map PyData.int)) && decide (PyData.depth (.list (ns.map PyData.int)) ≤ 64)) = true
  rw [Bool.and_eq_true]
  exact ⟨by simp only [PyData.canLay0]; exact ints_lay ns, decide_eq_true h2⟩
theorem dp_ints {K : PySem.W.Frag} {H : Hp} : ∀ ns : List Int, DpAll K H (ns.map V.int) (ns.map PyData.int)
  | [] => .nil
  | z :: zs => .cons (.int z) (dp_ints zs)
theorem ints_nil (ns : List Int) : PyData.eqv (.list (ns.map PyData.int)) (.list []) = ns.isEmpty := by
  cases ns with
  | nil => simp [PyData.eqv, PyData.eqvAll]
  | cons z zs => simp [PyData.eqv, PyData.eqvAll]
/-! ### the stream of draws: the list at a, the numbers left at l, n draws made -/
def StreamAt (H : Hp) (a l : Addr) (n : Nat) : Prop := a ≠ l ∧ ∃ (ns : List Int) (x z : Int), H a = some (.lst [.ref l, .int x, .int (n : Int), .int z]) ∧ H l = some (.lst (ns.map V.int)) ∧ ns.length ≤ 63 ∧ 0 ≤ x ∧ 0 ≤ z ∧ z < 2147483647
/-- all but the stream is kept -/
def Keep (a l : Addr) (H H' : Hp) : Prop := ∀ c o, c ≠ a → c ≠ l → H c = some o → H' c = some o
theorem Keep.refl (a l : Addr) (H : Hp) : Keep a l H H := fun _ _ _ _ h => h
theorem Keep.trans {a l : Addr} {H H1 H2 : Hp} (h : Keep a l H H1) (h' : Keep a l H1 H2) : Keep a l H H2 := fun c o x y e => h' c o x y (h c o x y e)
theorem Keep.of {a l : Addr} {H H' : Hp} (h : Same H H') : Keep a l H H' := fun c o _ _ e => h c o e
theorem StreamAt.same {H H' : Hp} {a l : Addr} {n : Nat} (h : StreamAt H a l n) (s : Same H H') : StreamAt H' a l n := by
  obtain ⟨ne, ns, x, z, h1, h2, h3⟩ := h
  exact ⟨ne, ns, x, z, s _ _ h1, s _ _ h2, h3⟩
def spDraw : Sp := fun vs H Q _ => ∃ (a l : Addr) (n : Nat) (many : Int), vs = [.ref a, .int many] ∧ StreamAt H a l n ∧ n ≤ 100000 ∧ 0 < many ∧ Sm 9000 many ∧
  ∀ (r : Int) (H' : Hp), 0 ≤ r → r < many → StreamAt H' a l (n + 1) → Keep a l H H' → Q (.int r) H'
section
variable {P : Program} {w : World} {K : PySem.W.Frag} {mg : Str → Option Value} {base : Heap} {C : Addr}
theorem scDraw : FnScope ["_law_stream", "_law_many", "_law_digit", "_law_mixed_here"] ["_law_stream", "_law_many"] (defScope sDraw) := ⟨rfl, rfl, rfl, by decide +kernel, rfl, by decide +kernel, by decide +kernel⟩
theorem ok_draw {f : Addr} {fd : FuncData} (F : Fun K "_law_draw" "_law_draw" sDraw f fd) (T : Txt K mg) : FnOk P w K mg base CX0 1 f fd ["_law_stream", "_law_many"] spDraw := by
  refine F.ok scDraw (fun vs H Q E h => ?_) (fun cdv A outer s H vs Q E hr h => ?_)
  · obtain ⟨a, l, n, many, rfl, _⟩ := h
    rfl
  · obtain ⟨a, l, n, many, rfl, ⟨ne, ns, x, z, h1, h2, hl, hx, hz0, hz1⟩, hn, hm, hms, k⟩ := h
    have hW : ∀ j : Int, CDivW j many := fun j => ⟨hm, Nat.lt_of_lt_of_le (PySem.Flt.log2_lt_of (by decide) hms) (Nat.le_refl _)⟩
    refine ⟨_, pss_cut (ps_asg (pe_op op_add (pe_ix ix_list (pv 0) pe_int (fun _ _ => rfl)) pe_int) (pg_sub (pv 0) pe_int set_list))
      (pss_cut (ps_if (PW.pt (pw_and (pt_cmpR op_eq (pe_ix ix_list (pv 0) pe_int (fun _ _ => rfl)) pe_int (nomark _)) (pw_and1 (pt_cmpR (op_neD hr.units) (pe_ix ix_list (pv 0) pe_int (fun _ _ => rfl)) (pe_lst pa_nil) (nomark _)))))
        (pss_cons (ps_asg (pe_bm PySem.F.plainAttrs_list PySem.F.slot_list_pop PySem.F.type_list_pop mt_popAt (pe_ix ix_list (pv 0) pe_int (fun _ _ => rfl)) (pa_cons pe_int pa_nil)) (pg_sub (pv 0) pe_int set_list))
          (pss_one (ps_if (pt_cmpR op_lt (pe_ix ix_list (pv 0) pe_int (fun _ _ => rfl)) (pe_op op_pow pe_int pe_int) (nomark _))
            (pss_cons (ps_asg (pe_op op_mod (pe_callTy call_int1 (by rfl) T.int_ boot_int' (pa_cons (pe_op op_add (pe_op op_add (pe_op op_mul (pe_ix ix_list (pv 0) pe_int (fun _ _ => rfl)) pe_int) (pe_ix ix_list (pv 0) pe_int (fun _ _ => rfl))) pe_int) pa_nil)) pe_int) (pg_sub (pv 0) pe_int set_list))
              (pss_one (ps_asg pe_int (pg_sub (pv 0) pe_int set_list)))) pss_nil))) pss_nil)
      (pss_cons (ps_if (pt_cmpR op_gt (pe_ix ix_list (pv 0) pe_int (fun _ _ => rfl)) pe_int (nomark _))
        (pss_cons (ps_set (i := 2) scDraw.nd rfl (Or.inl rfl) (pe_op op_mod (pe_callTy call_int1 (by rfl) T.int_ boot_int' (pa_cons (pe_ix ix_list (pv 0) pe_int (fun _ _ => rfl)) pa_nil)) (pv 1)))
          (pss_cons (ps_asg (pe_op op_fdivW (pe_ix ix_list (pv 0) pe_int (fun _ _ => rfl)) (pv 1)) (pg_sub (pv 0) pe_int set_list))
            (pss_one (ps_ret (pv 2))))) pss_nil)
      (pss_cons (ps_set (i := 3) scDraw.nd rfl (Or.inl rfl) (pe_op op_mod (pe_op op_pow (pe_op op_add (pe_op op_add (pe_ix ix_list (pv 0) pe_int (fun _ _ => rfl)) (pe_op op_mul pe_int (pe_ix ix_list (pv 0) pe_int (fun _ _ => rfl)))) pe_int) pe_int) pe_int))
      (pss_one (ps_ret (pe_op op_mod (pe_op op_mod (pe_op op_pow (pe_op op_add (pe_op op_add (pe_op op_mul (pv 3) pe_int) (pe_op op_mul (pe_op op_mul pe_int (pe_ix ix_list (pv 0) pe_int (fun _ _ => rfl))) (pe_ix ix_list (pv 0) pe_int (fun _ _ => rfl)))) pe_int) pe_int) pe_int) (pv 1))))))), ?_⟩
    refine ⟨fun σ' H' => σ' = [some (V.ref a), some (V.int many), none, none] ∧ H' = upd H a (.lst [.ref l, .int x, .int ((n : Int) + 1), .int z]), ?_, ?_⟩
    · exact ⟨_, rfl, a, _, 2, _, rfl, rfl, SqL.of h1, rfl, _, _, rfl, rfl, _, rfl, a, _, 2, 2, rfl, rfl, h1, rfl, rfl, rfl⟩
    rintro _ _ ⟨rfl, rfl⟩
    refine ⟨fun σ' H' => σ' = [some (V.ref a), some (V.int many), none, none] ∧ ∃ (ns' : List Int) (x' z' : Int), H' a = some (.lst [.ref l, .int x', .int ((n : Int) + 1), .int z']) ∧ H' l = some (.lst (ns'.map V.int)) ∧ ns'.length ≤ 63 ∧ 0 ≤ x' ∧ 0 ≤ z' ∧ z' < 2147483647 ∧ Keep a l H H', ?_, ?_⟩
    · have kp1 : Keep a l H (upd H a (.lst [.ref l, .int x, .int ((n : Int) + 1), .int z])) := fun c o ca _ e => by rw [upd_ne ca]; exact e
      have hl1 : (upd H a (.lst [.ref l, .int x, .int ((n : Int) + 1), .int z])) l = some (.lst (ns.map V.int)) := by rw [upd_ne ne.symm]; exact h2
      refine ⟨_, rfl, a, _, 1, _, rfl, rfl, SqL.of upd_same, rfl, rfl, _, rfl, ifD_2 (fun hx0 => ?_) (fun _ => iteF ?_)⟩
      · refine ⟨_, rfl, a, _, 0, _, rfl, rfl, SqL.of upd_same, rfl, Nat.zero_le _, fun p hp => ?_⟩
        have npa : a ≠ p := fun e => by rw [← e, upd_same] at hp; cases hp
        have npl : l ≠ p := ne_of_none hl1 hp
        have kp2 : Keep a l H (upd (upd H a (.lst [.ref l, .int x, .int ((n : Int) + 1), .int z])) p (.lst [])) := fun c o ca cl e => by
          rw [upd_ne (ne_of_none (kp1 c o ca cl e) hp)]; exact kp1 c o ca cl e
        refine ⟨.list (ns.map PyData.int), .list [], .lst (SqL.of (by rw [upd_ne npl]; exact hl1)) (dp_ints ns), .lst (SqL.of upd_same) .nil, ints_shaped ns, ints_shaped [], _, rfl, ?_⟩
        rw [ints_nil]
        cases ns with
        | nil => exact iteF ⟨rfl, [], x, z, by rw [upd_ne npa, upd_same], by rw [upd_ne npl]; exact hl1, Nat.zero_le _, hx, hz0, hz1, kp2⟩
        | cons y ys =>
          refine iteT ?_
          have ga : (upd (upd H a (.lst [.ref l, .int x, .int ((n : Int) + 1), .int z])) p (.lst [])) a = some (.lst [.ref l, .int x, .int ((n : Int) + 1), .int z]) := by rw [upd_ne npa, upd_same]
          have gl : (upd (upd H a (.lst [.ref l, .int x, .int ((n : Int) + 1), .int z])) p (.lst [])) l = some (.lst ((y :: ys).map V.int)) := by rw [upd_ne npl]; exact hl1
          generalize (upd (upd H a (.lst [.ref l, .int x, .int ((n : Int) + 1), .int z])) p (.lst [])) = Hb at ga gl kp2
          refine ⟨_, rfl, a, _, 0, _, rfl, rfl, SqL.of ga, rfl, .inl ⟨rfl, _, SqL.of gl⟩, l, _, 0, 0, .int y, rfl, rfl, gl, by decide, by decide, (ixN_seq (Evl.ixN_nat (j := 0) (by simp))).1, rfl, ?_⟩
          have ga2 : (upd Hb l (.lst (((y :: ys).map V.int).eraseIdx 0))) a = some (.lst [.ref l, .int x, .int ((n : Int) + 1), .int z]) := by rw [upd_ne ne]; exact ga
          refine ⟨_, rfl, a, _, 1, 1, rfl, rfl, ga2, rfl, ?_⟩
          have kp3 : ∀ o, Keep a l H (upd (upd Hb l (.lst (((y :: ys).map V.int).eraseIdx 0))) a o) := fun o c u ca cl e => by rw [upd_ne ca, upd_ne cl]; exact kp2 c u ca cl e
          have gl3 : ∀ o, (upd (upd Hb l (.lst (((y :: ys).map V.int).eraseIdx 0))) a o) l = some (.lst (ys.map V.int)) := fun o => by rw [upd_ne ne.symm, upd_same]; rfl
          have hys : ys.length ≤ 63 := Nat.le_trans (Nat.le_succ _) hl
          refine ⟨_, rfl, a, _, 1, _, rfl, rfl, SqL.of upd_same, rfl, 10, 18, rfl, rfl, (by show CPow 10 18; unfold CPow; decide), _, _, rfl, rfl, _, rfl, ifD_2 (fun hy => ?_) (fun hy => ?_)⟩
          · refine ⟨_, rfl, a, _, 3, _, rfl, rfl, SqL.of upd_same, rfl, _, _, rfl, rfl, .inr (by decide), _, rfl, a, _, 1, _, rfl, rfl, SqL.of upd_same, rfl, _, _, rfl, rfl, _, _, rfl, rfl, .inl ⟨_, rfl, _, _, rfl, rfl, (by show (0 : Int) < 2147483647; decide), _, rfl, a, _, 3, 3, rfl, rfl, upd_same, rfl, ?_⟩⟩
            refine ⟨_, rfl, a, _, 1, 1, rfl, rfl, upd_same, rfl, ?_⟩
            rw [upd_upd, upd_upd]
            exact ⟨rfl, ys, 0, (z * 31 + y + 7) % 2147483647, upd_same, gl3 _, hys, by decide, Int.emod_nonneg _ (by decide), Int.emod_lt_of_pos _ (by decide), kp3 _⟩
          · exact ⟨rfl, ys, y, z, upd_same, gl3 _, hys, by
              have h18 : (0 : Int) ≤ 10 ^ (18 : Int).toNat := by decide
              omega, hz0, hz1, kp3 _⟩
      · exact ⟨rfl, ns, x, z, upd_same, hl1, hl, hx, hz0, hz1, kp1⟩
    rintro _ H1 ⟨rfl, ns', x', z', g1, g2, gl, gx, gz0, gz1, kp⟩
    refine ⟨_, rfl, a, _, 1, _, rfl, rfl, SqL.of g1, rfl, _, _, rfl, rfl, _, rfl, ifD_2 (fun hp => ?_) (fun _ => ?_)⟩
    · refine ⟨_, rfl, a, _, 1, _, rfl, rfl, SqL.of g1, rfl, .inl ⟨_, rfl, _, rfl, _, _, rfl, rfl, hm, ?_⟩⟩
      refine ⟨_, rfl, a, _, 1, _, rfl, rfl, SqL.of g1, rfl, _, rfl, _, _, rfl, rfl, hW _, _, rfl, a, _, 1, 1, rfl, rfl, g1, rfl, _, rfl, ?_⟩
      refine k (x' % many) _ (Int.emod_nonneg _ (by omega)) (Int.emod_lt_of_pos _ hm) ⟨ne, ns', x' / many, z', upd_same, by rw [upd_ne ne.symm]; exact g2, gl, Int.ediv_nonneg gx (by omega), gz0, gz1⟩ fun c o ca cl e => by
        rw [upd_ne ca]; exact kp c o ca cl e
    · have hn' : (n : Int) ≤ 100000 := by omega
      have hn0 : (0 : Int) ≤ n := by omega
      refine ⟨_, rfl, a, _, 3, _, rfl, rfl, SqL.of g1, rfl, _, rfl, a, _, 2, _, rfl, rfl, SqL.of g1, rfl, _, _, rfl, rfl, .inl (by decide), _, _, rfl, rfl, _, _, rfl, rfl, _, _, rfl, rfl, ?_, _, _, rfl, rfl, (by show (0 : Int) < 2147483629; decide), ?_⟩
      · show CPow _ 5
        refine ⟨by decide, by decide, ?_⟩
        have e64 : (2 : Nat) ^ 64 = 18446744073709551616 := by decide
        rw [e64]
        omega
      · generalize hmx : ((z' + 104729 * ((n : Int) + 1) + 17) ^ (5 : Int).toNat) % 2147483629 = mx
        have m0 : 0 ≤ mx := by rw [← hmx]; exact Int.emod_nonneg _ (by decide)
        have m1 : mx < 2147483629 := by rw [← hmx]; exact Int.emod_lt_of_pos _ (by decide)
        refine ⟨_, rfl, _, _, rfl, rfl, .inr (by decide), _, rfl, a, _, 2, _, rfl, rfl, SqL.of g1, rfl, _, _, rfl, rfl, .inl (by decide), _, rfl, a, _, 2, _, rfl, rfl, SqL.of g1, rfl, _, _, rfl, rfl, .inr ?_, _, _, rfl, rfl, _, _, rfl, rfl, _, _, rfl, rfl, ?_, _, _, rfl, rfl, (by show (0 : Int) < 1000000007; decide), _, rfl, _, _, rfl, rfl, hm, ?_⟩
        · have e64 : (2 : Int) ^ 64 = 18446744073709551616 := by decide
          rw [e64]
          omega
        · show CPow _ 3
          refine ⟨by decide, by decide, ?_⟩
          have e64 : (2 : Nat) ^ 64 = 18446744073709551616 := by decide
          rw [e64]
          have q0 : 0 ≤ 40503 * ((n : Int) + 1) * ((n : Int) + 1) := Int.mul_nonneg (by omega) (by omega)
          have q1 : 40503 * ((n : Int) + 1) * ((n : Int) + 1) ≤ 40503 * 100001 * 100001 := Int.mul_le_mul (by omega) (by omega) (by omega) (by decide)
          omega
        · exact k _ _ (Int.emod_nonneg _ (by omega)) (Int.emod_lt_of_pos _ hm) ⟨ne, ns', x', z', g1, g2, gl, gx, gz0, gz1⟩ kp
end
theorem sm9000 {x : Int} {n : Nat} (h : Sm n x) (hn : n ≤ 9000) : Sm 9000 x := h.mono hn
theorem sm_small {x : Int} (h : x.natAbs < 8) : Sm 9000 x := sm9000 (n := 3) h (by decide)
def spStart (K : PySem.W.Frag) : Sp := fun vs H Q _ => ∃ (p : Addr) (ns : List Int), vs = [.ref p] ∧ SqL K H p (ns.map V.int) ∧ ns.length ≤ 63 ∧ ∀ (a l : Addr) (H' : Hp), StreamAt H' a l 0 → H a = none → H l = none → Same H H' → Q (.ref a) H'
section
variable {P : Program} {w : World} {K : PySem.W.Frag} {mg : Str → Option Value} {base : Heap} {C : Addr}
theorem scStart : FnScope ["_law_script"] ["_law_script"] (defScope sStart) := ⟨rfl, rfl, rfl, by decide +kernel, rfl, by decide +kernel, by decide +kernel⟩
theorem ok_start {f : Addr} {fd : FuncData} (F : Fun K "_law_start" "_law_start" sStart f fd) (T : Txt K mg) : FnOk P w K mg base CX0 1 f fd ["_law_script"] (spStart K) := by
  refine F.ok scStart (fun vs H Q E h => ?_) (fun cdv A outer s H vs Q E hr h => ?_)
  · obtain ⟨p, ns, rfl, _⟩ := h
    rfl
  · obtain ⟨p, ns, rfl, hS, hl, k⟩ := h
    refine ⟨_, pss_one (ps_ret (pe_lst (pa_cons (pe_callTy call_list_of (by rfl) T.list_ boot_list' (pa_cons (pv 0) pa_nil)) (pa_cons pe_int (pa_cons pe_int (pa_cons pe_int pa_nil)))))), ?_⟩
    refine ⟨_, rfl, p, _, rfl, .inl hS, fun l hl' => ⟨by show 4 ≤ sizeLine; decide, fun a ha => ?_⟩⟩
    have nal : a ≠ l := fun e => by rw [e, upd_same] at ha; cases ha
    have ha0 : H a = Option.none := by rw [upd_ne nal] at ha; exact ha
    exact k a l _ ⟨nal, ns, 0, 0, upd_same, by rw [upd_ne nal.symm, upd_same], hl, by decide, by decide, by decide⟩ ha0 hl' ((new_ hl').trans (new_ ha))
end
theorem StreamAt.ne {H : Hp} {a l p : Addr} {n : Nat} (S : StreamAt H a l n) (h : H p = none) : p ≠ a ∧ p ≠ l := by
  obtain ⟨ne, ns, x, z, h1, h2, _⟩ := S
  exact ⟨(ne_of_none h1 h).symm, (ne_of_none h2 h).symm⟩
theorem sm48 {z : Int} (h1 : 1 ≤ z) (h2 : z ≤ 48) : Sm 9000 z := by
  refine sm9000 (n := 6) ?_ (by decide)
  have e : (2 : Nat) ^ 6 = 64 := by decide
  show z.natAbs < 2 ^ 6
  rw [e]
  omega
theorem StreamAt.at_ {H : Hp} {a l : Addr} {n m : Nat} (S : StreamAt H a l n) (e : n = m) : StreamAt H a l m := e ▸ S
theorem StreamAt.lst {H : Hp} {a l p : Addr} {n : Nat} {xs ys : List V} (S : StreamAt H a l n) (hp : H p = some (.lst xs)) (pa : p ≠ a) (pl : p ≠ l) : StreamAt (upd H p (.lst ys)) a l n := by
  obtain ⟨ne, ns, x, z, h1, h2, h3⟩ := S
  exact ⟨ne, ns, x, z, by rw [upd_ne pa.symm]; exact h1, by rw [upd_ne pl.symm]; exact h2, h3⟩

def spPick : Sp := fun vs H Q _ => ∃ (a l L : Addr) (n : Nat) (xs : List V), vs = [.ref a, .ref L] ∧ StreamAt H a l n ∧ n ≤ 20000 ∧ H L = some (.lst xs) ∧ L ≠ a ∧ L ≠ l ∧ 1 ≤ xs.length ∧ xs.length ≤ 48 ∧
  ∀ (i : Nat) (x : V) (H' : Hp), xs[i]? = some x → StreamAt H' a l (n + 1) → Keep a l H H' → Q x H'
section
variable {P : Program} {w : World} {K : PySem.W.Frag} {mg : Str → Option Value} {base : Heap} {C : Addr}
theorem scPick : FnScope ["_law_stream", "_law_some"] ["_law_stream", "_law_some"] (defScope sPick) := ⟨rfl, rfl, rfl, by decide +kernel, rfl, by decide +kernel, by decide +kernel⟩
theorem ok_pick {f g : Addr} {fd gd : FuncData} (F : Fun K "_law_pick" "_law_pick" sPick f fd) (T : Txt K mg) (D : Df K mg "_law_draw" sDraw g gd ["_law_stream", "_law_many"]) : FnOk P w K mg base CX0 2 f fd ["_law_stream", "_law_some"] spPick := by
  have G : FnOk P w K mg base CX0 1 g gd ["_law_stream", "_law_many"] spDraw := ok_draw D.F T
  refine F.ok scPick (fun vs H Q E h => ?_) (fun cdv A outer s H vs Q E hr h => ?_)
  · obtain ⟨a, l, L, n, _, rfl, _⟩ := h
    rfl
  · obtain ⟨a, l, L, n, xs, rfl, S0, hn, hL, La, Ll, h1, h48, kk⟩ := h
    refine ⟨_, pss_one (ps_ret (pe_ix ix_list (pv 1) (pe_call G hr rfl D.M D.F.kp D.B .nil pass0 (pa_cons (pv 0) (pa_cons (pe_callB call_len_seq (by rfl) T.len_ PySem.boot_len (pa_cons (pv 1) pa_nil)) pa_nil))) (fun _ _ => rfl))), ?_⟩
    refine ⟨_, rfl, _, rfl, _, rfl, L, xs, rfl, .inl (SqL.of hL), a, l, n, _, rfl, S0, by omega, by omega, sm48 (by omega) (by omega), fun r H1 r0 r1 S1 kp1 => ?_⟩
    have hi : r.toNat < xs.length := by omega
    have hx : xs[r.toNat]? = some xs[r.toNat] := List.getElem?_eq_getElem hi
    have ha := atI_nat hx
    rw [Int.toNat_of_nonneg r0] at ha
    exact ⟨L, xs, r, _, rfl, rfl, SqL.of (kp1 _ _ La Ll hL), ha, kk _ _ H1 hx S1 kp1⟩
end
theorem pe_bmF {X : Cx} {K : PySem.W.Frag} (hK : X.K = K) {o e : PySem.Expr} {es : List PySem.Expr} {to : TE} {t : TA} {name : Str} {apos cpos : Pos} {T id : String} {r : V → List V → Hp → VK → Prop} (pa : PlainAttrs T) (sl : Slot T name id) (hty : typeOf (Value.builtin id) = pure (Value.type "method_descriptor")) (hm : MtR X id r) (ho : PE X o to) (ha : PA X (e :: es) t)
    (h1 : attributeBase o name X.env (eval o X.env) = eval o X.env := by rfl)
    (h2 : ((((backTo cpos (starEach (e :: es) X.env)).all fun x => !x.fst) && (backToKw cpos (keywordEach [] X.env)).all fun x => x.fst.isSome) && decide (((e :: es).length + ([] : List Keyword).length + if ([] : List Keyword).isEmpty = true then 0 else 1) < 30)) = true := by rfl)
    (h3 : (apos.endLine == cpos.line) = true := by rfl)
    (h4 : starEach (e :: es) X.env = (false, eval e X.env) :: starEach es X.env := by rfl)
    (h5 : ((backTo cpos (starEach es X.env)).any fun x => x.fst) = false := by rfl) : PE X ((o.Attribute name apos).Call (e :: es) [] cpos) (tBM K T r to t) := by
  subst hK
  exact pe_bm pa sl hty hm ho ha h1 h2 h3 h4 h5
theorem erase_perm {α : Type} {l : List α} {i : Nat} (h : i < l.length) : (l[i] :: l.eraseIdx i).Perm l := by
  rw [List.eraseIdx_eq_take_drop_succ]
  have e : l.take i ++ l[i] :: l.drop (i + 1) = l := by
    rw [← List.drop_eq_getElem_cons h, List.take_append_drop]
  have p : (l.take i ++ l[i] :: l.drop (i + 1)).Perm (l[i] :: (l.take i ++ l.drop (i + 1))) := List.perm_middle
  rw [e] at p
  exact p.symm
theorem keep_updB {a l D : Addr} {H H' : Hp} {o : HO} (k : Keep a l H H') (hD : H D = Option.none) : Keep a l H (upd H' D o) := fun c u ca cl e => by
  rw [upd_ne (ne_of_none e hD)]
  exact k c u ca cl e
theorem keep_none {a l : Addr} {H H' : Hp} {p : Addr} (k : Keep a l H H') (pa : p ≠ a) (pl : p ≠ l) (h : H' p = Option.none) : H p = Option.none := by
  cases e : H p with
  | none => rfl
  | some o => rw [k p o pa pl e] at h; cases h
def spMixed : Sp := fun vs H Q _ => ∃ (a l L : Addr) (n : Nat) (xs : List V), vs = [.ref a, .ref L] ∧ StreamAt H a l n ∧ n ≤ 20000 ∧ H L = some (.lst xs) ∧ xs.length ≤ 48 ∧
  ∀ (t : Addr) (ys : List V) (H' : Hp), H' t = some (.lst ys) → ys.Perm xs → t ≠ a → t ≠ l → H t = none → StreamAt H' a l (n + xs.length) → Keep a l H H' → Q (.ref t) H'
section
variable {P : Program} {w : World} {K : PySem.W.Frag} {mg : Str → Option Value} {base : Heap} {C : Addr}
theorem scMixed : FnScope ["_law_stream", "_law_some", "_law_left", "_law_k"] ["_law_stream", "_law_some"] (defScope sMixed) := ⟨rfl, rfl, rfl, by decide +kernel, rfl, by decide +kernel, by decide +kernel⟩
theorem ok_mixed {f g : Addr} {fd gd : FuncData} (F : Fun K "_law_mixed" "_law_mixed" sMixed f fd) (T : Txt K mg) (D : Df K mg "_law_draw" sDraw g gd ["_law_stream", "_law_many"]) : FnOk P w K mg base CX0 2 f fd ["_law_stream", "_law_some"] spMixed := by
  have G : FnOk P w K mg base CX0 1 g gd ["_law_stream", "_law_many"] spDraw := ok_draw D.F T
  refine F.ok scMixed (fun vs H Q E h => ?_) (fun cdv A outer s H vs Q E hr h => ?_)
  · obtain ⟨a, l, L, n, _, rfl, _⟩ := h
    rfl
  · obtain ⟨a, l, L, n, xs, rfl, S0, hn, hL, h48, kk⟩ := h
    refine ⟨_, pss_cons (ps_set (i := 2) scMixed.nd rfl (Or.inr rfl) (pe_callTy call_list_of (by rfl) T.list_ boot_list' (pa_cons (pv 1) pa_nil)))
      (pss_one (ps_ret (pe_lc (own := [("_law_k", 3)]) (g := gName 3) (tt := tYes) (by rfl) scMixed.nd (pi_range1 (by rfl) T.range_ (pa_cons (pe_callB call_len_seq (by rfl) T.len_ PySem.boot_len (pa_cons (pv 2) pa_nil)) pa_nil)) (blkOk_by (N := ["_law_stream", "_law_some", "_law_left", "_law_k"]) (sc := defScope sMixed) (by decide +kernel))
          (fun _ _ _ _ _ => pg_name (i := 3) scMixed.nd rfl (Or.inl rfl)) (fun _ _ _ _ _ => pts_nil)
          (fun _ _ _ _ _ => pe_bmF (K := K) rfl PySem.F.plainAttrs_list PySem.F.slot_list_pop PySem.F.type_list_pop mt_popAt (pv 2) (pa_cons (pe_call G hr rfl D.M D.F.kp D.B .nil pass0 (pa_cons (pv 0) (pa_cons (pe_callB (call_lenK (K := K) rfl) (by rfl) T.len_ PySem.boot_len (pa_cons (pv 2) pa_nil)) pa_nil))) pa_nil))))), ?_⟩
    refine ⟨_, rfl, L, xs, rfl, .inl (SqL.of hL), fun W hW => ?_⟩
    have sW := new_ (o := .lst xs) hW
    obtain ⟨Wa, Wl⟩ := S0.ne hW
    refine ⟨_, rfl, W, _, rfl, .inl (SqL.of upd_same), _, rfl, by omega, by omega, fun Dd hD => ?_⟩
    have hD0 : H Dd = none := by
      cases e : H Dd with
      | none => rfl
      | some o => have := sW _ _ e; rw [hD] at this; cases this
    obtain ⟨Da, Dl⟩ := S0.ne hD0
    have neWD : W ≠ Dd := fun e => by rw [← e, upd_same] at hD; cases hD
    have S1 := (S0.same sW).same (new_ (o := .lst []) hD)
    refine lc_range (n := xs.length) (fun i H' => StreamAt H' a l (n + i) ∧ Keep a l H H' ∧ ∃ left acc, H' W = some (.lst left) ∧ H' Dd = some (.lst acc) ∧ acc.length = i ∧ left.length + i = xs.length ∧ (acc ++ left).Perm xs) ?_ ?_ ?_
    · exact ⟨S1, keep_updB (keep_updB (Keep.refl _ _ _) hW) hD0, xs, [], by rw [upd_ne neWD]; exact upd_same, upd_same, rfl, rfl, List.Perm.refl _⟩
    · rintro i H2 hi ⟨S2, k2, left, acc, hw, hd, hl, hll, hp⟩
      refine ⟨rfl, ?_⟩
      dsimp only [tYes]
      rw [if_pos rfl]
      refine ⟨_, rfl, .inl ⟨rfl, _, SqL.of hw⟩, _, rfl, _, rfl, W, left, rfl, .inl (SqL.of hw), a, l, _, _, rfl, S2, by omega, by omega, sm48 (by omega) (by omega), fun r H3 r0 r1 S3 k3 => ?_⟩
      have hw3 := k3 _ _ Wa Wl hw
      have hd3 := k3 _ _ Da Dl hd
      have hlt : r.toNat < left.length := by omega
      have hx : left[r.toNat]? = some left[r.toNat] := List.getElem?_eq_getElem hlt
      have hsi : seqIndex? r left.length = some r.toNat := by
        unfold seqIndex?
        have e : ¬ r < 0 := by omega
        have e2 : r < (left.length : Int) := by omega
        simp [e, r0, e2]
      refine ⟨W, left, r, r.toNat, left[r.toNat], rfl, rfl, hw3, by omega, by omega, hsi, hx, ?_⟩
      refine ⟨acc, by rw [upd_ne neWD.symm]; exact hd3, Nat.lt_of_lt_of_le (by omega : acc.length < 49) (by decide), ?_⟩
      have hw4 : (upd H3 W (.lst (left.eraseIdx r.toNat))) Dd = some (.lst acc) := by rw [upd_ne neWD.symm]; exact hd3
      refine ⟨(S3.lst hw3 Wa Wl).lst hw4 Da Dl |>.at_ (by omega), keep_updB (keep_updB (k2.trans k3) hW) hD0, left.eraseIdx r.toNat, acc ++ [left[r.toNat]], by rw [upd_ne neWD]; exact upd_same, upd_same, by rw [List.length_append, hl]; rfl, by rw [List.length_eraseIdx_of_lt hlt]; omega, ?_⟩
      refine List.Perm.trans ?_ hp
      rw [List.append_assoc]
      exact List.Perm.append_left _ (erase_perm hlt)
    · rintro H2 ⟨S2, k2, left, acc, hw, hd, hl, hll, hp⟩
      have : left = [] := List.length_eq_zero_iff.mp (by omega)
      subst this
      rw [List.append_nil] at hp
      exact kk Dd acc H2 hd hp Da Dl hD0 S2 k2
end
end PA

set_option maxHeartbeats 4000000
namespace PA
open PySem L2 RZ
/-! ### a comprehension over zip -/
section
variable {K : PySem.W.Frag} {a b : Addr} {xs ys : List V} {g : TG} {tt : TT} {te : TE} {vs : List Nat} {σ : L2.St} {H1 : Hp} {D : Addr} {Qd : Hp → Prop}
theorem lc_zipL (hl : xs.length = ys.length) (Pv : Nat → Hp → Prop) (h0 : Pv 0 (upd H1 D (.lst []))) (hq : ∀ i H, Pv i H → SqL K H a xs ∧ SqL K H b ys)
    (hs : ∀ (i : Nat) (x y : V) (T : Addr) (H : Hp), xs[i]? = some x → ys[i]? = some y → Pv i H → H T = none → g (.ref T) (wipe σ vs) (upd H T (.tup [x, y])) fun σ2 H2 => wipe σ2 vs = wipe σ vs ∧ tt σ2 H2 fun c H3 =>
      if c = true then te σ2 H3 fun z H4 => ∃ acc, H4 D = some (.lst acc) ∧ acc.length < sizeLine ∧ Pv (i + 1) (upd H4 D (.lst (acc ++ [z]))) else Pv (i + 1) H3) (hd : ∀ H, Pv xs.length H → Qd H) :
    ∃ W : Nat → Nat → Hp → Prop, (∃ m, W 0 m (upd H1 D (.lst []))) ∧ ∀ i m H, W i m H →
      ((Itz K a b).stop i H ∧ Qd H) ∨ ((Itz K a b).go i H ∧ ∃ Nx : Hp → Prop, (∀ H', Nx H' → ∃ m', m' < m ∧ W (i + 1) m' H') ∧ ∀ x H', (Itz K a b).yld i H x H' → g x (wipe σ vs) H' fun σ2 H2 => wipe σ2 vs = wipe σ vs ∧ tt σ2 H2 fun c H3 =>
        if c = true then te σ2 H3 fun z H4 => ∃ acc, H4 D = some (.lst acc) ∧ acc.length < sizeLine ∧ Nx (upd H4 D (.lst (acc ++ [z]))) else Nx H3) := by
  refine ⟨fun i m H => m = xs.length - i ∧ i ≤ xs.length ∧ Pv i H, ⟨xs.length, rfl, Nat.zero_le _, h0⟩, ?_⟩
  rintro i m H ⟨rfl, hi, p⟩
  obtain ⟨qx, qy⟩ := hq i H p
  by_cases hlt : i < xs.length
  · have hx : xs[i]? = some xs[i] := List.getElem?_eq_getElem hlt
    have hlt2 : i < ys.length := by omega
    have hy : ys[i]? = some ys[i] := List.getElem?_eq_getElem hlt2
    refine .inr ⟨⟨xs, ys, _, _, qx, qy, hx, hy⟩, Pv (i + 1), fun H' p' => ⟨xs.length - (i + 1), by omega, rfl, hlt, p'⟩, fun v H' y => ?_⟩
    obtain ⟨T, x', y', rfl, hT, rfl, f1, f2⟩ := y
    exact hs i x' y' T H (f1 xs qx) (f2 ys qy) p hT
  · have e : i = xs.length := by omega
    subst e
    exact .inl ⟨⟨xs, ys, qx, qy, Or.inl (Nat.le_refl _)⟩, hd H p⟩
theorem lc_zipT (hl : xs.length = ys.length) (Pv : Nat → Hp → Prop) (h0 : Pv 0 (upd H1 D (.lst []))) (hq : ∀ i H, Pv i H → SqT K H a xs ∧ SqT K H b ys)
    (hs : ∀ (i : Nat) (x y : V) (T : Addr) (H : Hp), xs[i]? = some x → ys[i]? = some y → Pv i H → H T = none → g (.ref T) (wipe σ vs) (upd H T (.tup [x, y])) fun σ2 H2 => wipe σ2 vs = wipe σ vs ∧ tt σ2 H2 fun c H3 =>
      if c = true then te σ2 H3 fun z H4 => ∃ acc, H4 D = some (.lst acc) ∧ acc.length < sizeLine ∧ Pv (i + 1) (upd H4 D (.lst (acc ++ [z]))) else Pv (i + 1) H3) (hd : ∀ H, Pv xs.length H → Qd H) :
    ∃ W : Nat → Nat → Hp → Prop, (∃ m, W 0 m (upd H1 D (.lst []))) ∧ ∀ i m H, W i m H →
      ((ItzT K a b).stop i H ∧ Qd H) ∨ ((ItzT K a b).go i H ∧ ∃ Nx : Hp → Prop, (∀ H', Nx H' → ∃ m', m' < m ∧ W (i + 1) m' H') ∧ ∀ x H', (ItzT K a b).yld i H x H' → g x (wipe σ vs) H' fun σ2 H2 => wipe σ2 vs = wipe σ vs ∧ tt σ2 H2 fun c H3 =>
        if c = true then te σ2 H3 fun z H4 => ∃ acc, H4 D = some (.lst acc) ∧ acc.length < sizeLine ∧ Nx (upd H4 D (.lst (acc ++ [z]))) else Nx H3) := by
  refine ⟨fun i m H => m = xs.length - i ∧ i ≤ xs.length ∧ Pv i H, ⟨xs.length, rfl, Nat.zero_le _, h0⟩, ?_⟩
  rintro i m H ⟨rfl, hi, p⟩
  obtain ⟨qx, qy⟩ := hq i H p
  by_cases hlt : i < xs.length
  · have hx : xs[i]? = some xs[i] := List.getElem?_eq_getElem hlt
    have hlt2 : i < ys.length := by omega
    have hy : ys[i]? = some ys[i] := List.getElem?_eq_getElem hlt2
    refine .inr ⟨⟨xs, ys, _, _, qx, qy, hx, hy⟩, Pv (i + 1), fun H' p' => ⟨xs.length - (i + 1), by omega, rfl, hlt, p'⟩, fun v H' y => ?_⟩
    obtain ⟨T, x', y', rfl, hT, rfl, f1, f2⟩ := y
    exact hs i x' y' T H (f1 xs qx) (f2 ys qy) p hT
  · have e : i = xs.length := by omega
    subst e
    exact .inl ⟨⟨xs, ys, qx, qy, Or.inl (Nat.le_refl _)⟩, hd H p⟩
end
/-! ### two values that are the same, to the depth n: ints, bools, lists and tuples of such -/
inductive Two (K : PySem.W.Frag) (H : Hp) : Nat → V → V → Prop where
  | bl (n : Nat) (b : Bool) : Two K H n (.bl b) (.bl b)
  | int (n : Nat) (i : Int) : Two K H n (.int i) (.int i)
  | non (n : Nat) : Two K H n .non .non
  | str (n : Nat) (x : Str) : Two K H n (.str x) (.str x)
  | lst {n : Nat} {a b : Addr} {xs ys : List V} (ha : H a = some (.lst xs)) (hb : H b = some (.lst ys)) (hl : xs.length = ys.length) (hsz : xs.length ≤ sizeLine) (hi : ∀ (i : Nat) (x y : V), xs[i]? = some x → ys[i]? = some y → Two K H n x y) : Two K H (n + 1) (.ref a) (.ref b)
  | tup {n : Nat} {a b : Addr} {xs ys : List V} (ha : SqT K H a xs) (hb : SqT K H b ys) (hl : xs.length = ys.length) (hsz : xs.length ≤ sizeLine) (hi : ∀ (i : Nat) (x y : V), xs[i]? = some x → ys[i]? = some y → Two K H n x y) : Two K H (n + 1) (.ref a) (.ref b)
theorem Two.same {K : PySem.W.Frag} {H H' : Hp} {n : Nat} {x y : V} (t : Two K H n x y) (s : Same H H') : Two K H' n x y := by
  induction t with
  | bl n b => exact .bl n b
  | int n i => exact .int n i
  | non n => exact .non n
  | str n x => exact .str n x
  | lst ha hb hl hz _ ih => exact .lst (s _ _ ha) (s _ _ hb) hl hz ih
  | tup ha hb hl hz _ ih => exact .tup (SqT.up ha s) (SqT.up hb s) hl hz ih
theorem tyT {K : PySem.W.Frag} {H : Hp} {a : Addr} {xs : List V} (h : SqT K H a xs) : TyX K H (.ref a) (.type "tuple") := by
  rcases h with (h | ⟨ob, h⟩) | ⟨o, its, n, h1, h2, _⟩
  · exact .base (.tup h)
  · exact .fTuple h
  · exact .kTuple h1 h2
def spSame (K : PySem.W.Frag) (n : Nat) : Sp := fun vs H Q _ => ∃ x y, vs = [x, y] ∧ Two K H n x y ∧ ∀ H', Same H H' → Q (.bl true) H'
section
variable {P : Program} {w : World} {K : PySem.W.Frag} {mg : Str → Option Value} {base : Heap} {C : Addr}
theorem scSame : FnScope ["_law_found", "_law_due", "_law_one", "_law_other"] ["_law_found", "_law_due"] (defScope sSame) := ⟨rfl, rfl, rfl, by decide +kernel, rfl, by decide +kernel, by decide +kernel⟩
theorem kit2 {t : String} {b1 b2 r : Bool} (h1 : kitB t "list" = some b1) (h2 : kitB t "tuple" = some b2) (hr : (b1 || b2) = r) : PySem.W.kitAny K (.type t) [.type "list", .type "tuple"] = some r := by
  subst hr
  refine kitAny_cons (b := b1) (kit_ty h1) (fun e => ?_) (fun e => by rw [e]; rfl)
  subst e
  refine kitAny_cons (b := b2) (kit_ty h2) (fun e => ?_) (fun e => by rw [e]; rfl)
  subst e
  exact kitAny_nil
theorem kit3 {t : String} (h1 : kitB t "int" = some false) (h2 : kitB t "list" = some false) (h3 : kitB t "tuple" = some false) : PySem.W.kitAny K (.type t) [.type "int", .type "list", .type "tuple"] = some false := by
  refine kitAny_cons (b := false) (kit_ty h1) (fun _ => ?_) (fun e => by cases e)
  refine kitAny_cons (b := false) (kit_ty h2) (fun _ => ?_) (fun e => by cases e)
  refine kitAny_cons (b := false) (kit_ty h3) (fun _ => ?_) (fun e => by cases e)
  exact kitAny_nil
theorem ok_same {f : Addr} {fd : FuncData} (D : Df K mg "_law_same" sSame f fd ["_law_found", "_law_due"]) (T : Txt K mg) : ∀ n : Nat, FnOk P w K mg base CX0 (n + 1) f fd ["_law_found", "_law_due"] (spSame K n) := by
  have hlen : ∀ n, ∀ vs H Q E, spSame K n vs H Q E → vs.length = (["_law_found", "_law_due"] : List Str).length := fun n vs H Q E h => by
    obtain ⟨x, y, rfl, _⟩ := h
    rfl
  intro n
  induction n with
  | zero =>
    refine D.F.ok scSame (hlen 0) (fun cdv A outer s H vs Q E hr h => ?_)
    obtain ⟨x, y, rfl, t, k⟩ := h
    cases t with
    | int _ i =>
      refine ⟨_, pss_cons (ps_if (pt_val (pe_callB call_isiT (by rfl) T.isi boot_isi (pa_cons (pv 1) (pa_cons (pe_tup (pa_cons (pe_bltn (v := .ty "list") (by rfl) T.list_ boot_list' rfl) (pa_cons (pe_bltn (v := .ty "tuple") (by rfl) T.tup_ boot_tuple' rfl) pa_nil))) pa_nil)))) pss_never pss_nil)
      (pss_cons (ps_if (pt_val (pe_callB call_isi (by rfl) T.isi boot_isi (pa_cons (pv 1) (pa_cons (pe_bltn (v := .ty "int") (by rfl) T.int_ boot_int' rfl) pa_nil))))
        (pss_one (ps_ret (pe_and (pe_callB call_isi (by rfl) T.isi boot_isi (pa_cons (pv 0) (pa_cons (pe_bltn (v := .ty "int") (by rfl) T.int_ boot_int' rfl) pa_nil)))
          (pe_and (pe_cmpR op_eq (pe_callB call_isi (by rfl) T.isi boot_isi (pa_cons (pv 0) (pa_cons (pe_bltn (v := .ty "bool") (by rfl) T.bool_ boot_bool' rfl) pa_nil))) (pe_callB call_isi (by rfl) T.isi boot_isi (pa_cons (pv 1) (pa_cons (pe_bltn (v := .ty "bool") (by rfl) T.bool_ boot_bool' rfl) pa_nil))) (nomark _))
            (pe_one (pe_cmpR op_eq (pv 0) (pv 1) (nomark _))))))) pss_nil) pss_never), ?_⟩
      refine ⟨_, rfl, by show 2 ≤ sizeLine; decide, fun tp htp => ⟨_, tp, _, _, [.type "list", .type "tuple"], _, rfl, upd_same, .cons (.ty _) (.cons (.ty _) .nil), .base (.int i), kit2 (b1 := false) (b2 := false) (by decide +kernel) (by decide +kernel) rfl, _, rfl, iteF ?_⟩⟩
      refine ⟨_, rfl, _, _, _, _, _, rfl, .ty _, .base (.int i), kit_ty (b := "int") (r := true) (by decide +kernel), _, rfl, iteT ?_⟩
      refine ⟨_, rfl, _, _, _, _, _, rfl, .ty _, .base (.int i), kit_ty (b := "int") (r := true) (by decide +kernel), _, rfl, iteT ?_⟩
      refine ⟨_, rfl, _, _, _, _, _, rfl, .ty _, .base (.int i), kit_ty (b := "bool") (r := false) (by decide +kernel), _, rfl, _, _, _, _, _, rfl, .ty _, .base (.int i), kit_ty (b := "bool") (r := false) (by decide +kernel), rfl, _, rfl, ifD_yes rfl ?_⟩
      refine ⟨_, rfl, _, rfl, rfl, ?_⟩
      show Q (V.bl (decide (V.int i = V.int i))) _
      rw [decide_eq_true rfl]
      exact k _ (new_ htp)
    | bl _ b =>
      refine ⟨_, pss_cons (ps_if (pt_val (pe_callB call_isiT (by rfl) T.isi boot_isi (pa_cons (pv 1) (pa_cons (pe_tup (pa_cons (pe_bltn (v := .ty "list") (by rfl) T.list_ boot_list' rfl) (pa_cons (pe_bltn (v := .ty "tuple") (by rfl) T.tup_ boot_tuple' rfl) pa_nil))) pa_nil)))) pss_never pss_nil)
      (pss_cons (ps_if (pt_val (pe_callB call_isi (by rfl) T.isi boot_isi (pa_cons (pv 1) (pa_cons (pe_bltn (v := .ty "int") (by rfl) T.int_ boot_int' rfl) pa_nil))))
        (pss_one (ps_ret (pe_and (pe_callB call_isi (by rfl) T.isi boot_isi (pa_cons (pv 0) (pa_cons (pe_bltn (v := .ty "int") (by rfl) T.int_ boot_int' rfl) pa_nil)))
          (pe_and (pe_cmpR op_eq (pe_callB call_isi (by rfl) T.isi boot_isi (pa_cons (pv 0) (pa_cons (pe_bltn (v := .ty "bool") (by rfl) T.bool_ boot_bool' rfl) pa_nil))) (pe_callB call_isi (by rfl) T.isi boot_isi (pa_cons (pv 1) (pa_cons (pe_bltn (v := .ty "bool") (by rfl) T.bool_ boot_bool' rfl) pa_nil))) (nomark _))
            (pe_one (pe_cmpR op_eq (pv 0) (pv 1) (nomark _))))))) pss_nil) pss_never), ?_⟩
      refine ⟨_, rfl, by show 2 ≤ sizeLine; decide, fun tp htp => ⟨_, tp, _, _, [.type "list", .type "tuple"], _, rfl, upd_same, .cons (.ty _) (.cons (.ty _) .nil), .base (.bl b), kit2 (b1 := false) (b2 := false) (by decide +kernel) (by decide +kernel) rfl, _, rfl, iteF ?_⟩⟩
      refine ⟨_, rfl, _, _, _, _, _, rfl, .ty _, .base (.bl b), kit_ty (b := "int") (r := true) (by decide +kernel), _, rfl, iteT ?_⟩
      refine ⟨_, rfl, _, _, _, _, _, rfl, .ty _, .base (.bl b), kit_ty (b := "int") (r := true) (by decide +kernel), _, rfl, iteT ?_⟩
      refine ⟨_, rfl, _, _, _, _, _, rfl, .ty _, .base (.bl b), kit_ty (b := "bool") (r := true) (by decide +kernel), _, rfl, _, _, _, _, _, rfl, .ty _, .base (.bl b), kit_ty (b := "bool") (r := true) (by decide +kernel), rfl, _, rfl, ifD_yes rfl ?_⟩
      refine ⟨_, rfl, _, rfl, rfl, ?_⟩
      show Q (V.bl (decide (V.bl b = V.bl b))) _
      rw [decide_eq_true rfl]
      exact k _ (new_ htp)
    | non _ =>
      refine ⟨_, pss_cons (ps_if (pt_val (pe_callB call_isiT (by rfl) T.isi boot_isi (pa_cons (pv 1) (pa_cons (pe_tup (pa_cons (pe_bltn (v := .ty "list") (by rfl) T.list_ boot_list' rfl) (pa_cons (pe_bltn (v := .ty "tuple") (by rfl) T.tup_ boot_tuple' rfl) pa_nil))) pa_nil)))) pss_never pss_nil)
      (pss_cons (ps_if (pt_val (pe_callB call_isi (by rfl) T.isi boot_isi (pa_cons (pv 1) (pa_cons (pe_bltn (v := .ty "int") (by rfl) T.int_ boot_int' rfl) pa_nil)))) pss_never pss_nil)
      (pss_one (ps_ret (pe_and (pe_cmpR op_eq (pv 0) (pv 1) (nomark _)) (pe_one (pe_cmpR op_is_bl (pe_callB call_isiT (by rfl) T.isi boot_isi (pa_cons (pv 0) (pa_cons (pe_tup (pa_cons (pe_bltn (v := .ty "int") (by rfl) T.int_ boot_int' rfl) (pa_cons (pe_bltn (v := .ty "list") (by rfl) T.list_ boot_list' rfl) (pa_cons (pe_bltn (v := .ty "tuple") (by rfl) T.tup_ boot_tuple' rfl) pa_nil)))) pa_nil))) pe_bl (nomark _))))))), ?_⟩
      refine ⟨_, rfl, by show 2 ≤ sizeLine; decide, fun tp htp => ⟨_, tp, _, _, [.type "list", .type "tuple"], _, rfl, upd_same, .cons (.ty _) (.cons (.ty _) .nil), .base .non, kit2 (b1 := false) (b2 := false) (by decide +kernel) (by decide +kernel) rfl, _, rfl, iteF ?_⟩⟩
      refine ⟨_, rfl, _, _, _, _, _, rfl, .ty _, .base .non, kit_ty (b := "int") (r := false) (by decide +kernel), _, rfl, iteF ?_⟩
      refine ⟨_, rfl, _, rfl, rfl, _, rfl, ifD_yes rfl ?_⟩
      refine ⟨_, rfl, by show 3 ≤ sizeLine; decide, fun tq htq => ⟨_, tq, _, _, [.type "int", .type "list", .type "tuple"], _, rfl, upd_same, .cons (.ty _) (.cons (.ty _) (.cons (.ty _) .nil)), .base .non, kit3 (by decide +kernel) (by decide +kernel) (by decide +kernel), _, _, rfl, rfl, ?_⟩⟩
      exact k _ ((new_ htp).trans (new_ htq))
    | str _ x =>
      refine ⟨_, pss_cons (ps_if (pt_val (pe_callB call_isiT (by rfl) T.isi boot_isi (pa_cons (pv 1) (pa_cons (pe_tup (pa_cons (pe_bltn (v := .ty "list") (by rfl) T.list_ boot_list' rfl) (pa_cons (pe_bltn (v := .ty "tuple") (by rfl) T.tup_ boot_tuple' rfl) pa_nil))) pa_nil)))) pss_never pss_nil)
      (pss_cons (ps_if (pt_val (pe_callB call_isi (by rfl) T.isi boot_isi (pa_cons (pv 1) (pa_cons (pe_bltn (v := .ty "int") (by rfl) T.int_ boot_int' rfl) pa_nil)))) pss_never pss_nil)
      (pss_one (ps_ret (pe_and (pe_cmpR op_eq (pv 0) (pv 1) (nomark _)) (pe_one (pe_cmpR op_is_bl (pe_callB call_isiT (by rfl) T.isi boot_isi (pa_cons (pv 0) (pa_cons (pe_tup (pa_cons (pe_bltn (v := .ty "int") (by rfl) T.int_ boot_int' rfl) (pa_cons (pe_bltn (v := .ty "list") (by rfl) T.list_ boot_list' rfl) (pa_cons (pe_bltn (v := .ty "tuple") (by rfl) T.tup_ boot_tuple' rfl) pa_nil)))) pa_nil))) pe_bl (nomark _))))))), ?_⟩
      refine ⟨_, rfl, by show 2 ≤ sizeLine; decide, fun tp htp => ⟨_, tp, _, _, [.type "list", .type "tuple"], _, rfl, upd_same, .cons (.ty _) (.cons (.ty _) .nil), .base (.str x), kit2 (b1 := false) (b2 := false) (by decide +kernel) (by decide +kernel) rfl, _, rfl, iteF ?_⟩⟩
      refine ⟨_, rfl, _, _, _, _, _, rfl, .ty _, .base (.str x), kit_ty (b := "int") (r := false) (by decide +kernel), _, rfl, iteF ?_⟩
      refine ⟨_, rfl, _, rfl, rfl, _, rfl, ifD_yes rfl ?_⟩
      refine ⟨_, rfl, by show 3 ≤ sizeLine; decide, fun tq htq => ⟨_, tq, _, _, [.type "int", .type "list", .type "tuple"], _, rfl, upd_same, .cons (.ty _) (.cons (.ty _) (.cons (.ty _) .nil)), .base (.str x), kit3 (by decide +kernel) (by decide +kernel) (by decide +kernel), _, _, rfl, rfl, ?_⟩⟩
      exact k _ ((new_ htp).trans (new_ htq))
  | succ n ih =>
    refine D.F.ok scSame (hlen (n + 1)) (fun cdv A outer s H vs Q E hr h => ?_)
    obtain ⟨x, y, rfl, t, k⟩ := h
    cases t with
    | int _ i =>
      refine ⟨_, pss_cons (ps_if (pt_val (pe_callB call_isiT (by rfl) T.isi boot_isi (pa_cons (pv 1) (pa_cons (pe_tup (pa_cons (pe_bltn (v := .ty "list") (by rfl) T.list_ boot_list' rfl) (pa_cons (pe_bltn (v := .ty "tuple") (by rfl) T.tup_ boot_tuple' rfl) pa_nil))) pa_nil)))) pss_never pss_nil)
      (pss_cons (ps_if (pt_val (pe_callB call_isi (by rfl) T.isi boot_isi (pa_cons (pv 1) (pa_cons (pe_bltn (v := .ty "int") (by rfl) T.int_ boot_int' rfl) pa_nil))))
        (pss_one (ps_ret (pe_and (pe_callB call_isi (by rfl) T.isi boot_isi (pa_cons (pv 0) (pa_cons (pe_bltn (v := .ty "int") (by rfl) T.int_ boot_int' rfl) pa_nil)))
          (pe_and (pe_cmpR op_eq (pe_callB call_isi (by rfl) T.isi boot_isi (pa_cons (pv 0) (pa_cons (pe_bltn (v := .ty "bool") (by rfl) T.bool_ boot_bool' rfl) pa_nil))) (pe_callB call_isi (by rfl) T.isi boot_isi (pa_cons (pv 1) (pa_cons (pe_bltn (v := .ty "bool") (by rfl) T.bool_ boot_bool' rfl) pa_nil))) (nomark _))
            (pe_one (pe_cmpR op_eq (pv 0) (pv 1) (nomark _))))))) pss_nil) pss_never), ?_⟩
      refine ⟨_, rfl, by show 2 ≤ sizeLine; decide, fun tp htp => ⟨_, tp, _, _, [.type "list", .type "tuple"], _, rfl, upd_same, .cons (.ty _) (.cons (.ty _) .nil), .base (.int i), kit2 (b1 := false) (b2 := false) (by decide +kernel) (by decide +kernel) rfl, _, rfl, iteF ?_⟩⟩
      refine ⟨_, rfl, _, _, _, _, _, rfl, .ty _, .base (.int i), kit_ty (b := "int") (r := true) (by decide +kernel), _, rfl, iteT ?_⟩
      refine ⟨_, rfl, _, _, _, _, _, rfl, .ty _, .base (.int i), kit_ty (b := "int") (r := true) (by decide +kernel), _, rfl, iteT ?_⟩
      refine ⟨_, rfl, _, _, _, _, _, rfl, .ty _, .base (.int i), kit_ty (b := "bool") (r := false) (by decide +kernel), _, rfl, _, _, _, _, _, rfl, .ty _, .base (.int i), kit_ty (b := "bool") (r := false) (by decide +kernel), rfl, _, rfl, ifD_yes rfl ?_⟩
      refine ⟨_, rfl, _, rfl, rfl, ?_⟩
      show Q (V.bl (decide (V.int i = V.int i))) _
      rw [decide_eq_true rfl]
      exact k _ (new_ htp)
    | bl _ b =>
      refine ⟨_, pss_cons (ps_if (pt_val (pe_callB call_isiT (by rfl) T.isi boot_isi (pa_cons (pv 1) (pa_cons (pe_tup (pa_cons (pe_bltn (v := .ty "list") (by rfl) T.list_ boot_list' rfl) (pa_cons (pe_bltn (v := .ty "tuple") (by rfl) T.tup_ boot_tuple' rfl) pa_nil))) pa_nil)))) pss_never pss_nil)
      (pss_cons (ps_if (pt_val (pe_callB call_isi (by rfl) T.isi boot_isi (pa_cons (pv 1) (pa_cons (pe_bltn (v := .ty "int") (by rfl) T.int_ boot_int' rfl) pa_nil))))
        (pss_one (ps_ret (pe_and (pe_callB call_isi (by rfl) T.isi boot_isi (pa_cons (pv 0) (pa_cons (pe_bltn (v := .ty "int") (by rfl) T.int_ boot_int' rfl) pa_nil)))
          (pe_and (pe_cmpR op_eq (pe_callB call_isi (by rfl) T.isi boot_isi (pa_cons (pv 0) (pa_cons (pe_bltn (v := .ty "bool") (by rfl) T.bool_ boot_bool' rfl) pa_nil))) (pe_callB call_isi (by rfl) T.isi boot_isi (pa_cons (pv 1) (pa_cons (pe_bltn (v := .ty "bool") (by rfl) T.bool_ boot_bool' rfl) pa_nil))) (nomark _))
            (pe_one (pe_cmpR op_eq (pv 0) (pv 1) (nomark _))))))) pss_nil) pss_never), ?_⟩
      refine ⟨_, rfl, by show 2 ≤ sizeLine; decide, fun tp htp => ⟨_, tp, _, _, [.type "list", .type "tuple"], _, rfl, upd_same, .cons (.ty _) (.cons (.ty _) .nil), .base (.bl b), kit2 (b1 := false) (b2 := false) (by decide +kernel) (by decide +kernel) rfl, _, rfl, iteF ?_⟩⟩
      refine ⟨_, rfl, _, _, _, _, _, rfl, .ty _, .base (.bl b), kit_ty (b := "int") (r := true) (by decide +kernel), _, rfl, iteT ?_⟩
      refine ⟨_, rfl, _, _, _, _, _, rfl, .ty _, .base (.bl b), kit_ty (b := "int") (r := true) (by decide +kernel), _, rfl, iteT ?_⟩
      refine ⟨_, rfl, _, _, _, _, _, rfl, .ty _, .base (.bl b), kit_ty (b := "bool") (r := true) (by decide +kernel), _, rfl, _, _, _, _, _, rfl, .ty _, .base (.bl b), kit_ty (b := "bool") (r := true) (by decide +kernel), rfl, _, rfl, ifD_yes rfl ?_⟩
      refine ⟨_, rfl, _, rfl, rfl, ?_⟩
      show Q (V.bl (decide (V.bl b = V.bl b))) _
      rw [decide_eq_true rfl]
      exact k _ (new_ htp)
    | non _ =>
      refine ⟨_, pss_cons (ps_if (pt_val (pe_callB call_isiT (by rfl) T.isi boot_isi (pa_cons (pv 1) (pa_cons (pe_tup (pa_cons (pe_bltn (v := .ty "list") (by rfl) T.list_ boot_list' rfl) (pa_cons (pe_bltn (v := .ty "tuple") (by rfl) T.tup_ boot_tuple' rfl) pa_nil))) pa_nil)))) pss_never pss_nil)
      (pss_cons (ps_if (pt_val (pe_callB call_isi (by rfl) T.isi boot_isi (pa_cons (pv 1) (pa_cons (pe_bltn (v := .ty "int") (by rfl) T.int_ boot_int' rfl) pa_nil)))) pss_never pss_nil)
      (pss_one (ps_ret (pe_and (pe_cmpR op_eq (pv 0) (pv 1) (nomark _)) (pe_one (pe_cmpR op_is_bl (pe_callB call_isiT (by rfl) T.isi boot_isi (pa_cons (pv 0) (pa_cons (pe_tup (pa_cons (pe_bltn (v := .ty "int") (by rfl) T.int_ boot_int' rfl) (pa_cons (pe_bltn (v := .ty "list") (by rfl) T.list_ boot_list' rfl) (pa_cons (pe_bltn (v := .ty "tuple") (by rfl) T.tup_ boot_tuple' rfl) pa_nil)))) pa_nil))) pe_bl (nomark _))))))), ?_⟩
      refine ⟨_, rfl, by show 2 ≤ sizeLine; decide, fun tp htp => ⟨_, tp, _, _, [.type "list", .type "tuple"], _, rfl, upd_same, .cons (.ty _) (.cons (.ty _) .nil), .base .non, kit2 (b1 := false) (b2 := false) (by decide +kernel) (by decide +kernel) rfl, _, rfl, iteF ?_⟩⟩
      refine ⟨_, rfl, _, _, _, _, _, rfl, .ty _, .base .non, kit_ty (b := "int") (r := false) (by decide +kernel), _, rfl, iteF ?_⟩
      refine ⟨_, rfl, _, rfl, rfl, _, rfl, ifD_yes rfl ?_⟩
      refine ⟨_, rfl, by show 3 ≤ sizeLine; decide, fun tq htq => ⟨_, tq, _, _, [.type "int", .type "list", .type "tuple"], _, rfl, upd_same, .cons (.ty _) (.cons (.ty _) (.cons (.ty _) .nil)), .base .non, kit3 (by decide +kernel) (by decide +kernel) (by decide +kernel), _, _, rfl, rfl, ?_⟩⟩
      exact k _ ((new_ htp).trans (new_ htq))
    | str _ x =>
      refine ⟨_, pss_cons (ps_if (pt_val (pe_callB call_isiT (by rfl) T.isi boot_isi (pa_cons (pv 1) (pa_cons (pe_tup (pa_cons (pe_bltn (v := .ty "list") (by rfl) T.list_ boot_list' rfl) (pa_cons (pe_bltn (v := .ty "tuple") (by rfl) T.tup_ boot_tuple' rfl) pa_nil))) pa_nil)))) pss_never pss_nil)
      (pss_cons (ps_if (pt_val (pe_callB call_isi (by rfl) T.isi boot_isi (pa_cons (pv 1) (pa_cons (pe_bltn (v := .ty "int") (by rfl) T.int_ boot_int' rfl) pa_nil)))) pss_never pss_nil)
      (pss_one (ps_ret (pe_and (pe_cmpR op_eq (pv 0) (pv 1) (nomark _)) (pe_one (pe_cmpR op_is_bl (pe_callB call_isiT (by rfl) T.isi boot_isi (pa_cons (pv 0) (pa_cons (pe_tup (pa_cons (pe_bltn (v := .ty "int") (by rfl) T.int_ boot_int' rfl) (pa_cons (pe_bltn (v := .ty "list") (by rfl) T.list_ boot_list' rfl) (pa_cons (pe_bltn (v := .ty "tuple") (by rfl) T.tup_ boot_tuple' rfl) pa_nil)))) pa_nil))) pe_bl (nomark _))))))), ?_⟩
      refine ⟨_, rfl, by show 2 ≤ sizeLine; decide, fun tp htp => ⟨_, tp, _, _, [.type "list", .type "tuple"], _, rfl, upd_same, .cons (.ty _) (.cons (.ty _) .nil), .base (.str x), kit2 (b1 := false) (b2 := false) (by decide +kernel) (by decide +kernel) rfl, _, rfl, iteF ?_⟩⟩
      refine ⟨_, rfl, _, _, _, _, _, rfl, .ty _, .base (.str x), kit_ty (b := "int") (r := false) (by decide +kernel), _, rfl, iteF ?_⟩
      refine ⟨_, rfl, _, rfl, rfl, _, rfl, ifD_yes rfl ?_⟩
      refine ⟨_, rfl, by show 3 ≤ sizeLine; decide, fun tq htq => ⟨_, tq, _, _, [.type "int", .type "list", .type "tuple"], _, rfl, upd_same, .cons (.ty _) (.cons (.ty _) (.cons (.ty _) .nil)), .base (.str x), kit3 (by decide +kernel) (by decide +kernel) (by decide +kernel), _, _, rfl, rfl, ?_⟩⟩
      exact k _ ((new_ htp).trans (new_ htq))
    | @lst _ a b xs ys ha hb hl hsz hi =>
      refine ⟨_, pss_cons (ps_if (pt_val (pe_callB call_isiT (by rfl) T.isi boot_isi (pa_cons (pv 1) (pa_cons (pe_tup (pa_cons (pe_bltn (v := .ty "list") (by rfl) T.list_ boot_list' rfl) (pa_cons (pe_bltn (v := .ty "tuple") (by rfl) T.tup_ boot_tuple' rfl) pa_nil))) pa_nil))))
      (pss_cons (ps_if (PW.pt (pw_or (pt_cmpR op_ne (pe_callB call_isi (by rfl) T.isi boot_isi (pa_cons (pv 0) (pa_cons (pe_bltn (v := .ty "list") (by rfl) T.list_ boot_list' rfl) pa_nil))) (pe_callB call_isi (by rfl) T.isi boot_isi (pa_cons (pv 1) (pa_cons (pe_bltn (v := .ty "list") (by rfl) T.list_ boot_list' rfl) pa_nil))) (nomark _)) (pw_or1 (pt_cmpR op_ne (pe_callB call_isi (by rfl) T.isi boot_isi (pa_cons (pv 0) (pa_cons (pe_bltn (v := .ty "tuple") (by rfl) T.tup_ boot_tuple' rfl) pa_nil))) (pe_callB call_isi (by rfl) T.isi boot_isi (pa_cons (pv 1) (pa_cons (pe_bltn (v := .ty "tuple") (by rfl) T.tup_ boot_tuple' rfl) pa_nil))) (nomark _))))) pss_never pss_nil)
        (pss_one (ps_ret (pe_and (pe_cmpR op_eq (pe_callB call_len_seq (by rfl) T.len_ PySem.boot_len (pa_cons (pv 0) pa_nil)) (pe_callB call_len_seq (by rfl) T.len_ PySem.boot_len (pa_cons (pv 1) pa_nil)) (nomark _))
          (pe_one (pe_callB (cr_all rfl) (by rfl) T.all_ boot_all' (pa_cons (pe_lc (own := [("_law_one", 2), ("_law_other", 3)]) (g := gTup K 2 (gCons (gName 2) (gCons (gName 3) gNil))) (tt := tYes) (by rfl) scSame.nd (pi_zipA (by rfl) T.zip_ (pa_cons (pv 0) (pa_cons (pv 1) pa_nil))) (blkOk_by (N := ["_law_found", "_law_due", "_law_one", "_law_other"]) (sc := defScope sSame) (by decide +kernel))
            (fun _ _ _ _ _ => by exact pg_tup rfl (pgs_cons (pg_name (i := 2) scSame.nd rfl (Or.inl rfl)) (pgs_cons (pg_name (i := 3) scSame.nd rfl (Or.inl rfl)) pgs_nil))) (fun _ _ _ _ _ => pts_nil)
            (fun _ _ _ _ _ => pe_call ih hr rfl D.M D.F.kp D.B .nil pass0 (pa_cons (pv 2) (pa_cons (pv 3) pa_nil)))) pa_nil))))))) pss_nil) pss_never, ?_⟩
      refine ⟨_, rfl, by show 2 ≤ sizeLine; decide, fun tp htp => ?_⟩
      have s1 : Same H (upd H tp (.tup [.ty "list", .ty "tuple"])) := new_ htp
      have hA := s1 _ _ ha
      have hB := s1 _ _ hb
      refine ⟨_, tp, _, _, [.type "list", .type "tuple"], _, rfl, upd_same, .cons (.ty _) (.cons (.ty _) .nil), .base (.lst hB), kit2 (b1 := true) (b2 := false) (by decide +kernel) (by decide +kernel) rfl, _, rfl, iteT ?_⟩
      refine ⟨_, rfl, _, _, _, _, _, rfl, .ty _, .base (.lst hA), kit_ty (b := "list") (r := true) (by decide +kernel), _, rfl, _, _, _, _, _, rfl, .ty _, .base (.lst hB), kit_ty (b := "list") (r := true) (by decide +kernel), rfl, _, rfl, iteNS rfl ?_⟩
      refine ⟨_, rfl, _, _, _, _, _, rfl, .ty _, .base (.lst hA), kit_ty (b := "tuple") (r := false) (by decide +kernel), _, rfl, _, _, _, _, _, rfl, .ty _, .base (.lst hB), kit_ty (b := "tuple") (r := false) (by decide +kernel), rfl, _, rfl, iteNS rfl ?_⟩
      refine ⟨_, rfl, _, _, rfl, .inl (SqL.of hA), _, rfl, _, _, rfl, .inl (SqL.of hB), rfl, _, rfl, ifD_yes (by rw [hl]) ?_⟩
      refine ⟨_, rfl, _, rfl, _, _, xs, ys, rfl, .inl ⟨SqL.of hA, SqL.of hB, fun Dd hD => ?_⟩⟩
      refine lc_zipL hl (fun i H' => Same (upd H tp (.tup [.ty "list", .ty "tuple"])) H' ∧ H' Dd = some (.lst ((List.replicate i true).map V.bl))) ⟨new_ hD, upd_same⟩ (fun i H' q => ⟨SqL.of (q.1 _ _ hA), SqL.of (q.1 _ _ hB)⟩) ?_ ?_
      · rintro i x y tt H' hx hy ⟨sm, hd⟩ ht
        refine ⟨tt, _, rfl, SqT.of upd_same, rfl, _, _, rfl, _, _, rfl, rfl, rfl, ?_⟩
        dsimp only [tYes]
        rw [if_pos rfl]
        have s2 : Same H' (upd H' tt (.tup [x, y])) := new_ ht
        refine ⟨_, rfl, _, rfl, x, y, rfl, ((hi i x y hx hy).same s1).same (sm.trans s2), fun H2 s3 => ⟨_, s3 _ _ (s2 _ _ hd), ?_, ?_, ?_⟩⟩
        · rw [List.length_map, List.length_replicate]
          exact Nat.lt_of_lt_of_le (List.getElem?_eq_some_iff.mp hx).1 hsz
        · intro c o e
          rw [upd_ne (ne_of_none e hD)]
          exact s3 _ _ (s2 _ _ (sm _ _ e))
        · rw [upd_same, List.replicate_succ', List.map_append]
          rfl
      · rintro H' ⟨sm, hd⟩
        refine ⟨Dd, _, rfl, SqL.of hd, ?_⟩
        have ea : (List.replicate xs.length true).all id = true := by
          rw [List.all_eq_true]
          intro x hx
          rw [(List.mem_replicate.mp hx).2]
          rfl
        rw [ea]
        exact k _ (s1.trans sm)
    | @tup _ a b xs ys ha hb hl hsz hi =>
      refine ⟨_, pss_cons (ps_if (pt_val (pe_callB call_isiT (by rfl) T.isi boot_isi (pa_cons (pv 1) (pa_cons (pe_tup (pa_cons (pe_bltn (v := .ty "list") (by rfl) T.list_ boot_list' rfl) (pa_cons (pe_bltn (v := .ty "tuple") (by rfl) T.tup_ boot_tuple' rfl) pa_nil))) pa_nil))))
      (pss_cons (ps_if (PW.pt (pw_or (pt_cmpR op_ne (pe_callB call_isi (by rfl) T.isi boot_isi (pa_cons (pv 0) (pa_cons (pe_bltn (v := .ty "list") (by rfl) T.list_ boot_list' rfl) pa_nil))) (pe_callB call_isi (by rfl) T.isi boot_isi (pa_cons (pv 1) (pa_cons (pe_bltn (v := .ty "list") (by rfl) T.list_ boot_list' rfl) pa_nil))) (nomark _)) (pw_or1 (pt_cmpR op_ne (pe_callB call_isi (by rfl) T.isi boot_isi (pa_cons (pv 0) (pa_cons (pe_bltn (v := .ty "tuple") (by rfl) T.tup_ boot_tuple' rfl) pa_nil))) (pe_callB call_isi (by rfl) T.isi boot_isi (pa_cons (pv 1) (pa_cons (pe_bltn (v := .ty "tuple") (by rfl) T.tup_ boot_tuple' rfl) pa_nil))) (nomark _))))) pss_never pss_nil)
        (pss_one (ps_ret (pe_and (pe_cmpR op_eq (pe_callB call_len_seq (by rfl) T.len_ PySem.boot_len (pa_cons (pv 0) pa_nil)) (pe_callB call_len_seq (by rfl) T.len_ PySem.boot_len (pa_cons (pv 1) pa_nil)) (nomark _))
          (pe_one (pe_callB (cr_all rfl) (by rfl) T.all_ boot_all' (pa_cons (pe_lc (own := [("_law_one", 2), ("_law_other", 3)]) (g := gTup K 2 (gCons (gName 2) (gCons (gName 3) gNil))) (tt := tYes) (by rfl) scSame.nd (pi_zipA (by rfl) T.zip_ (pa_cons (pv 0) (pa_cons (pv 1) pa_nil))) (blkOk_by (N := ["_law_found", "_law_due", "_law_one", "_law_other"]) (sc := defScope sSame) (by decide +kernel))
            (fun _ _ _ _ _ => by exact pg_tup rfl (pgs_cons (pg_name (i := 2) scSame.nd rfl (Or.inl rfl)) (pgs_cons (pg_name (i := 3) scSame.nd rfl (Or.inl rfl)) pgs_nil))) (fun _ _ _ _ _ => pts_nil)
            (fun _ _ _ _ _ => pe_call ih hr rfl D.M D.F.kp D.B .nil pass0 (pa_cons (pv 2) (pa_cons (pv 3) pa_nil)))) pa_nil))))))) pss_nil) pss_never, ?_⟩
      refine ⟨_, rfl, by show 2 ≤ sizeLine; decide, fun tp htp => ?_⟩
      have s1 : Same H (upd H tp (.tup [.ty "list", .ty "tuple"])) := new_ htp
      have hA := SqT.up ha s1
      have hB := SqT.up hb s1
      refine ⟨_, tp, _, _, [.type "list", .type "tuple"], _, rfl, upd_same, .cons (.ty _) (.cons (.ty _) .nil), tyT hB, kit2 (b1 := false) (b2 := true) (by decide +kernel) (by decide +kernel) rfl, _, rfl, iteT ?_⟩
      refine ⟨_, rfl, _, _, _, _, _, rfl, .ty _, tyT hA, kit_ty (b := "list") (r := false) (by decide +kernel), _, rfl, _, _, _, _, _, rfl, .ty _, tyT hB, kit_ty (b := "list") (r := false) (by decide +kernel), rfl, _, rfl, iteNS rfl ?_⟩
      refine ⟨_, rfl, _, _, _, _, _, rfl, .ty _, tyT hA, kit_ty (b := "tuple") (r := true) (by decide +kernel), _, rfl, _, _, _, _, _, rfl, .ty _, tyT hB, kit_ty (b := "tuple") (r := true) (by decide +kernel), rfl, _, rfl, iteNS rfl ?_⟩
      refine ⟨_, rfl, _, _, rfl, .inr (hA), _, rfl, _, _, rfl, .inr (hB), rfl, _, rfl, ifD_yes (by rw [hl]) ?_⟩
      refine ⟨_, rfl, _, rfl, _, _, xs, ys, rfl, .inr ⟨hA, hB, fun Dd hD => ?_⟩⟩
      refine lc_zipT hl (fun i H' => Same (upd H tp (.tup [.ty "list", .ty "tuple"])) H' ∧ H' Dd = some (.lst ((List.replicate i true).map V.bl))) ⟨new_ hD, upd_same⟩ (fun i H' q => ⟨SqT.up hA q.1, SqT.up hB q.1⟩) ?_ ?_
      · rintro i x y tt H' hx hy ⟨sm, hd⟩ ht
        refine ⟨tt, _, rfl, SqT.of upd_same, rfl, _, _, rfl, _, _, rfl, rfl, rfl, ?_⟩
        dsimp only [tYes]
        rw [if_pos rfl]
        have s2 : Same H' (upd H' tt (.tup [x, y])) := new_ ht
        refine ⟨_, rfl, _, rfl, x, y, rfl, ((hi i x y hx hy).same s1).same (sm.trans s2), fun H2 s3 => ⟨_, s3 _ _ (s2 _ _ hd), ?_, ?_, ?_⟩⟩
        · rw [List.length_map, List.length_replicate]
          exact Nat.lt_of_lt_of_le (List.getElem?_eq_some_iff.mp hx).1 hsz
        · intro c o e
          rw [upd_ne (ne_of_none e hD)]
          exact s3 _ _ (s2 _ _ (sm _ _ e))
        · rw [upd_same, List.replicate_succ', List.map_append]
          rfl
      · rintro H' ⟨sm, hd⟩
        refine ⟨Dd, _, rfl, SqL.of hd, ?_⟩
        have ea : (List.replicate xs.length true).all id = true := by
          rw [List.all_eq_true]
          intro x hx
          rw [(List.mem_replicate.mp hx).2]
          rfl
        rw [ea]
        exact k _ (s1.trans sm)
end
end PA

set_option maxHeartbeats 4000000
/-! own errors below ValueError whose __init__ says super().__init__(text) -/
namespace PySem
namespace SUP
open PySem.W
section
variable {prog : Program} {w : World} {A : Around} {E : Value → Shared → Prop} {h : Heap} {g : Array GenState} {d : Drawn} {t : Nat} {os : OsState}
variable {nm q : Str} {C N : Addr} {bs bm : List Value} {hdct : Bool} {sn : List Str} {sub : List Value} {ab : Bool} {col : Option Bool} {dd : Option Addr} {k0 k1 k2 k3 k5 : Option Value}
/-- ValueError.__init__, bound to the instance, called -/
theorem call_mwV {u e t0 : Addr} {rest : List Value} {Q : Value → Shared → Prop}
    (hC : h.get? C = some (excClassObj nm q C N bs bm hdct sn sub ab col dd k0 k1 k2 k3 k5 "ValueError.__new__")) (he : h.get? e = some (HandSPX.excO C t0)) (hu : h.get? u = some (kxs_mw "ValueError.__init__" e)) (hrest : rest.length ≤ sizeLine)
    (hq : ∀ h' t1, (∀ b o, b ≠ e → h.get? b = some o → h'.get? b = some o) → h'.get? e = some (HandSPX.excO C t1) → Q .none ⟨h', g, d, t, os⟩) :
    wpAny (model prog w) A (call (.ref u) rest) Q E ⟨h, g, d, t, os⟩ := by
  refine wpAny_call (codeAny_of_tree ?_)
  show wpAny _ A.in1 (callAny (.ref u) ⟨rest, []⟩) _ _ _
  simp only [callAny]
  refine wpAny_bind (wpAny_load hu ?_)
  simp only [kxs_mw, show (Value.type "method-wrapper" == Value.type "method" || Value.type "method-wrapper" == Value.type "builtin_function_or_method" || Value.type "method-wrapper" == Value.type "method-wrapper") = true by decide, if_true]
  refine W.KFB.if_so (by decide) ?_
  refine wpAny_bind (ESX.check_bound F.excBase_ValueError hC he rfl ?_)
  refine wpAny_bind (wpAny_pure (wpAny_pure ?_))
  refine ⟨Code.quiet_builtin _ (by decide +kernel), codeAny_builtin F.excBase_ValueError.initEntry ?_⟩
  rw [Around.under_plainId F.excBase_ValueError.init.plain _]
  wp_walk
  refine hq _ h.objs.size (fun b o hb ho => ?_) ?_
  · rw [Heap.get?_update_other _ _ (Ne.symm hb)]
    exact Heap.get?_push_of_some _ ho
  · rw [Heap.get?_update_self _ (Heap.get?_push_of_some _ he) rfl]
    rfl
end
end SUP
end PySem
namespace L2
open PySem PySem.Spec PyProof.Rows
/-- the context of the body of a def with the free name __class__ -/
def cxS (CX : CXT) (P : Program) (w : World) (K : PySem.W.Frag) (mg : Str → Option Value) (base : Heap) (N : List Str) (qual : Str) (scope : Scope) (f : Addr) (cd : Value) (cc : Addr) (A : Around) (outer : List Env) (s : Shared) (H : Hp) (E : XK) : Cx where
  prog := P
  w := w
  K := K
  mg := mg
  base := base
  A := A.deeper (PySem.W.ksEnv qual scope s.heap.objs.size f cd cc)
  N := N
  s_0 := s
  H_0 := H
  env := PySem.W.ksEnv qual scope s.heap.objs.size f cd cc
  outer := outer
  stack := PySem.W.ksEnv qual scope s.heap.objs.size f cd cc :: outer
  ex := []
  calm := true
  fn := fun x => x != ("__class__" : Str)
  pn := []
  xe := fun e s' => wpAny (model P w) (A.deeper (PySem.W.ksEnv qual scope s.heap.objs.size f cd cc)) (leaving (PySem.W.ksEnv qual scope s.heap.objs.size f cd cc) e) (fun _ s'' => CX outer H s E e s'') (fun e' s'' => CX outer H s E e' s'') s'
/-- names: the parameters first; no cell, and __class__ the only free one -/
structure SupScope (N P : List Str) (sc : Scope) : Prop where
  kind : sc.kind = .function
  co : sc.isCoroutine = false
  gen : sc.isGenerator = false
  nd : N.Nodup
  pre : N.take P.length = P
  par : ∀ x ∈ P, sc.names.lookup x = some .local
  nocell : ∀ y ∈ sc.names, y.2 ≠ .cell
  free : ∀ y ∈ sc.names, y.2 = .free → y.1 = ("__class__" : Str)
theorem rl_none {x : Str} : ∀ {P : List Str} {us : List Value}, x ∉ P → (P.zip us).reverse.lookup x = none := fun {P us} h => by
  rw [List.lookup_eq_none_iff]
  intro p hp
  have : p.1 ∈ P := (List.of_mem_zip (a := p.1) (b := p.2) (List.mem_reverse.mp hp)).1
  have e : x ≠ p.1 := fun z => h (by rw [z]; exact this)
  simpa using e
theorem rl_get {x : Str} {u : Value} : ∀ {P : List Str} {us : List Value} {i : Nat}, P.Nodup → P[i]? = some x → us[i]? = some u → (P.zip us).reverse.lookup x = some u
  | [], _, _, _, h, _ => by simp at h
  | _ :: _, [], _, _, _, h => by simp at h
  | p :: P, w :: us, 0, nd, h1, h2 => by
    simp at h1 h2
    subst h1 h2
    rw [List.zip_cons_cons, List.reverse_cons, List.lookup_append, rl_none (List.nodup_cons.mp nd).1]
    simp
  | p :: P, w :: us, i + 1, nd, h1, h2 => by
    rw [List.zip_cons_cons, List.reverse_cons, List.lookup_append, rl_get (i := i) (List.nodup_cons.mp nd).2 (by simpa using h1) (by simpa using h2)]
    rfl
theorem inv_startS {CX : CXT} {P : Program} {w : World} {K : PySem.W.Frag} {mg : Str → Option Value} {base : Heap} {N ps : List Str} {qual : Str} {scope : Scope} {f cc : Addr} {cd : Value} {A : Around} {outer : List Env} {s : Shared} {h1 : Heap} {tk : Nat} {H : Hp} {E : XK} {us : List Value} {vs : List V} {cl : Value} {cld : Option Addr} {D : Value} {csl : Array (Option Value)}
    (S : SupScope N ps scope) (hcc : K.lookup cc = some ⟨cl, cld, .cell (some D), csl⟩) (hd : A.handled = none) (e0 : Env0 P w K mg base A outer s H) (hl : vs.length = ps.length) (r : Vals vs us)
    (hns : h1.Ns s.heap.objs.size (fun x => (ps.zip us).reverse.lookup x)) (hk : ∀ b o, s.heap.get? b = some o → h1.get? b = some o) :
    Inv (cxS CX P w K mg base N qual scope f cd cc A outer s H E) [] (start N vs) H { s with heap := h1, toks := tk } := by
  have hcb : base.get? cc = some ⟨cl, cld, .cell (some D), csl⟩ := e0.mod.kin _ _ hcc
  obtain ⟨hcs, hcH⟩ := e0.bs _ _ hcb
  have noA : ∀ b : Addr, b ∉ (cxS CX P w K mg base N qual scope f cd cc A outer s H E).ex := fun b z => absurd (show b ∈ ([] : List Addr) from z) (by simp)
  have one : ∀ y c, (cxS CX P w K mg base N qual scope f cd cc A outer s H E).env.cells.lookup y = some c → y = ("__class__" : Str) ∧ c = cc := fun y c h => by
    have h : List.lookup y [(("__class__" : Str), cc)] = some c := h
    rw [List.lookup_cons] at h
    by_cases e : y = ("__class__" : Str)
    · subst e
      simp at h
      exact ⟨rfl, h.symm⟩
    · have e' : (y == ("__class__" : Str)) = false := by simpa using e
      rw [e'] at h
      simp at h
  refine ⟨⟨e0.mod, S.kind, rfl, rfl, Nat.le_refl _, fun y z c h1 h2 => ?_, fun y hy => ?_, fun y c hf h => ?_, fun _ => hd, Around.frames_deeper e0.frames, .inr ⟨rfl, rfl⟩, fun b z => absurd z (noA b), e0.bs, e0.bsz, fun b _ _ => noA b, fun b z => absurd z (noA b), e0.funs, e0.frf⟩,
    rfl, e0.bare, Un.kept hk, ⟨_, hns, fun i y v h1 h2 h3 => ?_⟩, fun y c h => ?_, e0.hok.fresh (Nat.le_refl _), fun y c h => ?_, fun p hp => absurd (show p ∈ ([] : List (Addr × Obj)) from hp) (by simp), e0.hok.kept hk, ?_⟩
  · rw [(one y c h1).1, (one z c h2).1]
  · have hy : scope.names.lookup y = some .cell ∨ scope.names.lookup y = some .free := hy
    rcases hy with hy | hy
    · exact absurd rfl (S.nocell _ (PySem.mem_of_lookup hy))
    · have e := S.free _ (PySem.mem_of_lookup hy) rfl
      have e : y = ("__class__" : Str) := e
      subst e
      exact ⟨cc, by show List.lookup _ [(("__class__" : Str), cc)] = _; simp⟩
  · have e := (one y c h).1
    subst e
    exact absurd hf (by show ¬ ((("__class__" : Str) != ("__class__" : Str)) = true); simp)
  · have hi : i < vs.length := by
      unfold start at h2
      by_cases hi : i < vs.length
      · exact hi
      · rw [List.getElem?_append_right (by simpa using hi)] at h2
        rw [List.getElem?_replicate] at h2
        split at h2 <;> cases h2
    have ha : vs[i]? = some v := by
      unfold start at h2
      rw [List.getElem?_append_left (by simpa using hi), List.getElem?_map] at h2
      cases e : vs[i]? with
      | none => rw [e] at h2; cases h2
      | some a => rw [e] at h2; cases h2; rfl
    obtain ⟨u, hu, rv⟩ := r.get ha
    have hp : ps[i]? = some y := by
      rw [← S.pre, List.getElem?_take_of_lt (by omega)]; exact h1
    have ndP : ps.Nodup := by rw [← S.pre]; exact S.nd.sublist (List.take_sublist _ _)
    exact ⟨u, rv, .inl ⟨S.par y (List.mem_of_getElem? hp), rl_get ndP hp hu⟩⟩
  · obtain ⟨_, e⟩ := one y c h
    subst e
    exact ⟨_, _, hk _ _ hcs, rfl⟩
  · rw [(one y c h).2]
    exact hcH
  · unfold start
    show _ = N.length
    have hpl : ps.length ≤ N.length := by have := congrArg List.length S.pre; rw [List.length_take] at this; omega
    rw [List.length_append, List.length_map, List.length_replicate]
    omega
/-- what the written part says of the class, of its own code and of super -/
structure SupC (P : Program) (K : PySem.W.Frag) (mg : Str → Option Value) (C cda : Addr) : Prop where
  oex : OexC K C
  sup : PySem.W.ks_superIn K C C "__init__" = some (some (.builtin "ValueError.__init__"))
  self : PySem.W.mroIn K C (.ref C) = some true
  ve : PySem.W.mroIn K C (.type "ValueError") = some true
  sta : PySem.W.nsIn K PySem.cStatics "thirdparty.any" = some none
  mgs : mg "super" = none
  code : ∃ (ccl : Value) (cdd : Option Addr) (vs : Array Value) (ccs : Array (Option Value)) (file : Str) (tf : Tok), K.lookup cda = some ⟨ccl, cdd, .fields vs, ccs⟩ ∧ vs[2]? = some (.str file tf) ∧ ((P.main.file : Str) == file) = true
  top : (P.main.scope.names.lookup ("super" : Str)).isSome = false
theorem fn_ofS {CX : CXT} {P : Program} {w : World} {K : PySem.W.Frag} {mg : Str → Option Value} {base : Heap} {k : Nat} {f C cc cda : Addr} {name qual : Str} {params : Arguments} {scope : Scope} {dV kV doc pm ct oc cl : Value} {an od cld : Option Addr}
    {osl csl : Array (Option Value)} {N ps ps' : List Str} {ar : Arg} {sp : Sp} {e : Expr} {es : List Expr} {rest : List Stmt} {p0 p1 ap cp ep : Pos}
    (lk : K.lookup f = some ⟨oc, od, .func (PySem.W.ksFn name qual params (.Expr (.Call (.Attribute (.Call (.Name "super" p0) [] [] p1) "__init__" ap) (e :: es) [] cp) ep :: rest) scope dV kV doc pm an (.ref cda) ct cc), osl⟩) (hcd : PySem.W.codeIn K (.ref cda) qual = true) (S : SupScope N ps scope)
    (hcc : K.lookup cc = some ⟨cl, cld, .cell (some (.ref C)), csl⟩) (SC : SupC P K mg C cda) (hks : scope.names.lookup ("super" : Str) = some .globalImplicit) (hkc : scope.names.lookup ("__class__" : Str) = some .free)
    (har : (params.posonlyargs ++ params.args).head? = some ar) (hps : ps = ar.arg :: ps')
    (len : ∀ vs H Q E, sp vs H Q E → vs.length = ps.length)
    (hbody : ∀ (A : Around) (outer : List Env) (s : Shared) (H : Hp) (vs : List V) (Q : VK) (E : XK), Room k (A.deeper (PySem.W.ksEnv qual scope s.heap.objs.size f (.ref cda) cc)) → sp vs H Q E →
      ∃ (a : Addr) (vs' : List V) (ta : TA) (t : TS), vs = .ref a :: vs' ∧ H a = some (exo a C none) ∧ PA (cxS CX P w K mg base N qual scope f (.ref cda) cc A outer s H E) (e :: es) ta ∧ PSs (cxS CX P w K mg base N qual scope f (.ref cda) cc A outer s H E) rest t ∧
        ta (start N vs) H fun us H1 => us.length ≤ 1000 ∧ H1 a = some (exo a C none) ∧ t { nx := fun _ H' => Q .non H', rt := Q } (start N vs) H1)
    (hev : ∀ L : Addr, ∃ pl : Sem Bool, eval (.Call (.Attribute (.Call (.Name "super" p0) [] [] p1) "__init__" ap) (e :: es) [] cp) (PySem.W.ksEnv qual scope L f (.ref cda) cc) = (do
      let ov ← attributeBase (.Call (.Name "super" p0) [] [] p1) "__init__" (PySem.W.ksEnv qual scope L f (.ref cda) cc) (eval (.Call (.Name "super" p0) [] [] p1) (PySem.W.ksEnv qual scope L f (.ref cda) cc))
      standAt ap.atName
      let (f', first) ← holding [ov] (getMethod ov "__init__" pl)
      callWith cp f' first (backTo cp (starEach (e :: es) (PySem.W.ksEnv qual scope L f (.ref cda) cc))) []))
    (hstar : ∀ env : Env, starEach (e :: es) env = (false, eval e env) :: starEach es env := by intro _; rfl) (hplain : ∀ (pos : Pos) (env : Env), (backTo pos (starEach es env)).any (·.1) = false := by intro _ _; rfl) :
    FnOk P w K mg base CX (k + 1) f (PySem.W.ksFn name qual params (.Expr (.Call (.Attribute (.Call (.Name "super" p0) [] [] p1) "__init__" ap) (e :: es) [] cp) ep :: rest) scope dV kV doc pm an (.ref cda) ct cc) ps sp := by
  refine ⟨len, fun A outer s H args us vs Q E hr e0 hb r hsp => ?_⟩
  have hl := len _ _ _ _ hsp
  have KX : K.In s.heap := e0.mod.kin.keeps fun b o e => (e0.bs b o e).1
  have lim : s.heap.NoLimit := e0.mod.nolimit.keeps fun b o e => (e0.bs b o e).1
  obtain ⟨a, vs', ta, t, rfl, ha, pe, pss, q⟩ := hbody A outer s H vs Q E (hr.deeper _) hsp
  refine PySem.ks_codeAny_call_defAt hr.depth (KX _ _ lk) rfl lim (PySem.W.codeRec_of KX hcd) rfl hb S.nocell (fun y hy => S.par _ (List.of_mem_zip (a := y.1) (b := y.2) hy).1) (fun h1 hns hk => ?_) S.co S.gen S.kind
  have I0 : Inv (cxS CX P w K mg base N qual scope f (.ref cda) cc A outer s H E) [] (start N (.ref a :: vs')) H { s with heap := h1, toks := s.toks + (ps.zip us).length } := inv_startS S hcc hr.hd e0 hl r hns hk
  have X1 : K.In h1 := I0.kIn
  obtain ⟨nm, qn, N', bs, bm, sn, sub, ab, col, dd, k0, k1, k2', k3, k5, hC, hbm⟩ := SC.oex.cls
  obtain ⟨t1, hx⟩ := exo_at I0.hok ha
  obtain ⟨ccl, cdd, vsf, ccs, file, tf, hcode, hvs, hfile⟩ := SC.code
  obtain ⟨mb, hb1, hb2⟩ := I0.mod.blt
  obtain ⟨cd, hcd', hal⟩ := Option.bind_eq_some_iff.mp SC.sup
  have hus : ∃ us', us = .ref a :: us' := by
    cases r with
    | cons h t => cases h; exact ⟨_, rfl⟩
  obtain ⟨us', rfl⟩ := hus
  have ndP : ps.Nodup := by rw [← S.pre]; exact S.nd.sublist (List.take_sublist _ _)
  have hka : scope.names.lookup ar.arg = some .local := S.par _ (by rw [hps]; exact List.mem_cons_self)
  have hv : (ps.zip (.ref a :: us')).reverse.lookup ar.arg = some (.ref a) := rl_get (i := 0) ndP (by rw [hps]; rfl) rfl
  have hsup : bootBuiltins "super" = some (.type "super") := by decide +kernel
  obtain ⟨pl, hev⟩ := hev s.heap.objs.size
  have hin : interactive (PySem.W.ksEnv qual scope s.heap.objs.size f (.ref cda) cc) = false := by
    simp [interactive, S.kind]
  refine PySem.ks_wpAt_execs_cons (env := PySem.W.ksEnv qual scope s.heap.objs.size f (.ref cda) cc) (PySem.ks_wpAt_Expr_any (env := PySem.W.ksEnv qual scope s.heap.objs.size f (.ref cda) cc) (hi := hin) (PySem.ks_wpAt_MethodCall (env := PySem.W.ksEnv qual scope s.heap.objs.size f (.ref cda) cc) (pl := pl) ?_ hev))
  refine PySem.ks_wpAt_super_base (ar := ar) (f := f) hks hkc (by decide) rfl (X1 _ _ lk) rfl har rfl (X1 _ _ hcode) rfl hvs hfile SC.top ?_
  refine PySem.W.ks_loadName_global S.kind hks (Calls.loadGlobal_builtin (I0.mod.glob.keeps I0.bk) SC.mgs (hb1.keeps I0.bk) ((hb2 _ (by decide)).trans hsup) ⟨rfl, ?_⟩)
  refine wpAny_loadName_free S.kind hkc (c := cc) rfl ⟨_, X1 _ _ hcc, rfl⟩ ?_
  refine wpAny_loadName_local S.kind hka hns hv ?_
  refine PySem.ks_wpAny_isType_cls (X1 _ _ hC) rfl ⟨rfl, ?_⟩
  refine PySem.ks_wpAny_call_super (X1 _ _ hC) rfl hx rfl (fun c e => by cases e) (PySem.W.looks_mroIn X1 SC.self) (fun h2 e2 k2 => ?_)
  have X2 : K.In h2 := X1.keeps k2
  have II : PySem.W.InstAt h1 a { cls := .ref C, dict := none, data := .fields #[.ref t1, .none, .none, .none, .bool false, .none] } C none := ⟨hx, rfl, rfl, trivial⟩
  have II2 : PySem.W.InstAt h2 a { cls := .ref C, dict := none, data := .fields #[.ref t1, .none, .none, .none, .bool false, .none] } C none := ⟨k2 _ _ hx, rfl, rfl, trivial⟩
  refine PySem.W.kxs_getMethod PySem.W.kxs_ValueError e2 (PySem.W.looks_opaque X2 SC.sta) ((PySem.W.looks_clsIn X2 hcd').andThen .now) rfl X2 hal (II2.type.andThen (PySem.W.looks_mroIn X2 SC.ve)) (PySem.W.ks_ne X1 II hcd') (by decide) ?_
  have I3 := ClX.pin_new (h' := h2.push (PySem.W.kxs_mw "ValueError.__init__" a)) (a := h2.objs.size) (o := PySem.W.kxs_mw "ValueError.__init__" a) (t' := s.toks + (ps.zip (.ref a :: us')).length + 1) I0 (fun b u e => Heap.get?_push_of_some _ (k2 _ _ e)) (Nat.le_of_lt (Heap.lt_size e2)) (Heap.get?_push_at rfl rfl) (fun v z => by cases z)
  have run := pe.run cp _ _ _ _ _ I3 q
  rw [hstar] at run ⊢
  refine PySem.W.kxs_callWith (i := "ValueError.__init__") (x := a) (by show (false || (backTo cp (starEach es _)).any (·.1)) = false; rw [hplain]; rfl) (PySem.Calls.evalArgs_plain (thn run fun us3 s3 hs3 => ?_))
  obtain ⟨vs3, H3, I4, rv, hlen, ha3, qt⟩ := hs3
  refine ⟨ClX.pin_at I4, ?_⟩
  obtain ⟨hp3, g3, d3, tk3, os3⟩ := s3
  obtain ⟨t3, hx3⟩ := exo_at I4.hok ha3
  refine PySem.SUP.call_mwV (I4.kIn _ _ hC) hx3 (ClX.pin_at I4) (by show us3.length ≤ sizeLine; rw [← rv.length]; exact Nat.le_trans hlen (by decide)) (fun h5 t5 k5 hx5 => ?_)
  have J := (ClX.unpin I4).write (t' := tk3) (x := a) (e := a) (o := exo a C none) (by rw [ha3]; exact True.intro) (.inl rfl) k5 ⟨_, hx5⟩ (exo_ok hx5)
  have eu : upd H3 a (exo a C none) = H3 := by
    funext b
    by_cases hb : b = a
    · rw [hb, upd_same, ha3]
    · rw [upd_ne hb]
  rw [eu] at J
  refine wpAt_of_wpAny (wpAny_mono (pss.run [] _ _ _ _ J qt) (fun fl s' hs => ?_) fun e s' hs => hs)
  have fin : ∀ {σ' : L2.St} {H' : Hp} {v : V} {u : Value}, Inv (cxS CX P w K mg base N qual scope f (.ref cda) cc A outer s H E) [] σ' H' s' → RelV v u → Q v H' → CE outer P w H s Q u s' :=
    fun {σ' H' v u} J rv q => ⟨v, H', J.os, J.bare, J.base, J.hok, rv, q⟩
  cases fl with
  | ret u =>
    obtain ⟨v, σ', H', J, rv, q⟩ := hs
    exact fin J rv q
  | next =>
    obtain ⟨σ', H', J, q⟩ := hs
    exact fin (v := V.non) (u := Value.none) J rfl q
  | brk =>
    obtain ⟨_, _, _, q⟩ := hs
    exact False.elim q
  | cont =>
    obtain ⟨_, _, _, q⟩ := hs
    exact False.elim q
end L2

set_option maxHeartbeats 4000000
namespace PA
open PySem L2 RZ
/-- a def with the free name __class__, whose class stands at C -/
structure SFn (K : PySem.W.Frag) (x qual : Str) (st : Stmt) (C cda f : Addr) (fd : FuncData) : Prop where
  ex : ∃ (oc : Value) (od : Option Addr) (kV doc pm : Value) (an : Option Addr) (ct cl : Value) (cld : Option Addr) (osl csl : Array (Option Value)) (cc : Addr),
    fd = PySem.W.ksFn x qual (defArgs st) (defBody st) (defScope st) .none kV doc pm an (.ref cda) ct cc ∧ K.lookup f = some ⟨oc, od, .func fd, osl⟩ ∧ PySem.W.codeIn K (.ref cda) qual = true ∧ K.lookup cc = some ⟨cl, cld, .cell (some (.ref C)), csl⟩
/-- such an __init__ that keeps one value under a name -/
def spErrI (C : Addr) (fld : Str) (ok : V → Prop) : Sp := fun vs H Q _ => ∃ (a : Addr) (v : V), vs = [.ref a, v] ∧ ok v ∧ H a = some (exo a C none) ∧ ∀ dx, H dx = none → dx ≠ a → Q .non (upd (upd H dx (exd dx [(fld, v)])) a (exo a C (some dx)))
section
variable {P : Program} {w : World} {K : PySem.W.Frag} {mg : Str → Option Value} {base : Heap} {C cda : Addr} {CX : CXT}
theorem scEMove : SupScope ["self", "place"] ["self", "place"] (defScope sEMove) := ⟨rfl, rfl, rfl, by decide +kernel, rfl, by decide +kernel, by decide +kernel, by decide +kernel⟩
theorem ok_eMove {f : Addr} {fd : FuncData} (F : SFn K "__init__" "InvalidMove.__init__" sEMove C cda f fd) (SC : SupC P K mg C cda) (hno : PySem.W.findIn K (.ref C) "place" = some none) : FnOk P w K mg base CX 1 f fd ["self", "place"] (spErrI C "place" fun _ => True) := by
  obtain ⟨oc, od, kV, doc, pm, an, ct, cl, cld, osl, csl, cc, rfl, lk, hcd, hcc⟩ := F.ex
  obtain ⟨ar, har, hps⟩ : ∃ ar : Arg, ((defArgs sEMove).posonlyargs ++ (defArgs sEMove).args).head? = some ar ∧ (["self", "place"] : List Str) = ar.arg :: ["place"] := ⟨_, rfl, rfl⟩
  refine fn_ofS lk hcd scEMove hcc SC (by decide +kernel) (by decide +kernel) har hps (fun vs H Q E h => ?_) (fun A outer s H vs Q E hr h => ?_) (fun L => ⟨_, rfl⟩)
  · obtain ⟨a, v, rfl, _⟩ := h
    rfl
  · obtain ⟨a, v, rfl, _, ha, kk⟩ := h
    refine ⟨a, [v], _, _, rfl, ha, pa_cons pe_str pa_nil, pss_one (ps_ost (pv 0) (pv 1)), ?_⟩
    exact ⟨by show 1 ≤ 1000; decide, ha, _, rfl, _, rfl, a, C, rfl, SC.oex, hno, .inl ⟨ha, fun dx h1 h2 => kk dx h1 h2⟩⟩
theorem scENo : SupScope ["self", "name"] ["self", "name"] (defScope sENo) := ⟨rfl, rfl, rfl, by decide +kernel, rfl, by decide +kernel, by decide +kernel, by decide +kernel⟩
theorem ok_eNo {f : Addr} {fd : FuncData} (F : SFn K "__init__" "NoCase.__init__" sENo C cda f fd) (SC : SupC P K mg C cda) (hno : PySem.W.findIn K (.ref C) "name" = some none) : FnOk P w K mg base CX 1 f fd ["self", "name"] (spErrI C "name" fun v => ∃ s : Str, v = .str s ∧ s.length ≤ 100) := by
  obtain ⟨oc, od, kV, doc, pm, an, ct, cl, cld, osl, csl, cc, rfl, lk, hcd, hcc⟩ := F.ex
  obtain ⟨ar, har, hps⟩ : ∃ ar : Arg, ((defArgs sENo).posonlyargs ++ (defArgs sENo).args).head? = some ar ∧ (["self", "name"] : List Str) = ar.arg :: ["name"] := ⟨_, rfl, rfl⟩
  refine fn_ofS lk hcd scENo hcc SC (by decide +kernel) (by decide +kernel) har hps (fun vs H Q E h => ?_) (fun A outer s H vs Q E hr h => ?_) (fun L => ⟨_, rfl⟩)
  · obtain ⟨a, v, rfl, _⟩ := h
    rfl
  · obtain ⟨a, v, rfl, ⟨y, rfl, hy⟩, ha, kk⟩ := h
    refine ⟨a, [.str y], _, _, rfl, ha, pa_cons (pe_joined (.cons pe_str (.cons (pe_fmt (pv 1)) .nil))) pa_nil, pss_one (ps_ost (pv 0) (pv 1)), ?_⟩
    have z1 : ∀ z : Str, z.length ≤ 100 → (Str.empty ++ z).length ≤ 100 := fun z h => by
      rw [Str.length_append]
      have : Str.empty.length = 0 := rfl
      omega
    have z2 : ∀ z u : Str, z.length ≤ 100 → u.length ≤ 100 → (Str.empty ++ z ++ u).length ≤ 300 := fun z u h h' => by
      rw [Str.length_append]
      have := z1 z h
      omega
    have big : ∀ {n : Nat}, n ≤ 300 → n ≤ sizeLine := fun h => Nat.le_trans h (by decide)
    exact ⟨_, rfl, big (Nat.le_trans (z1 _ (by decide +kernel)) (by decide)), _, rfl, .inl ⟨y, rfl, big (by omega), _, rfl, big (z2 _ y (by decide +kernel) hy), by show 1 ≤ 1000; decide, ha, _, rfl, _, rfl, a, C, rfl, SC.oex, hno, .inl ⟨ha, fun dx h1 h2 => kk dx h1 h2⟩⟩⟩
theorem scEThere : SupScope ["self", "name"] ["self", "name"] (defScope sEThere) := ⟨rfl, rfl, rfl, by decide +kernel, rfl, by decide +kernel, by decide +kernel, by decide +kernel⟩
theorem ok_eThere {f : Addr} {fd : FuncData} (F : SFn K "__init__" "CaseThere.__init__" sEThere C cda f fd) (SC : SupC P K mg C cda) (hno : PySem.W.findIn K (.ref C) "name" = some none) : FnOk P w K mg base CX 1 f fd ["self", "name"] (spErrI C "name" fun v => ∃ s : Str, v = .str s ∧ s.length ≤ 100) := by
  obtain ⟨oc, od, kV, doc, pm, an, ct, cl, cld, osl, csl, cc, rfl, lk, hcd, hcc⟩ := F.ex
  obtain ⟨ar, har, hps⟩ : ∃ ar : Arg, ((defArgs sEThere).posonlyargs ++ (defArgs sEThere).args).head? = some ar ∧ (["self", "name"] : List Str) = ar.arg :: ["name"] := ⟨_, rfl, rfl⟩
  refine fn_ofS lk hcd scEThere hcc SC (by decide +kernel) (by decide +kernel) har hps (fun vs H Q E h => ?_) (fun A outer s H vs Q E hr h => ?_) (fun L => ⟨_, rfl⟩)
  · obtain ⟨a, v, rfl, _⟩ := h
    rfl
  · obtain ⟨a, v, rfl, ⟨y, rfl, hy⟩, ha, kk⟩ := h
    refine ⟨a, [.str y], _, _, rfl, ha, pa_cons (pe_joined (.cons pe_str (.cons (pe_fmt (pv 1)) (.cons pe_str .nil)))) pa_nil, pss_one (ps_ost (pv 0) (pv 1)), ?_⟩
    have z2 : ∀ z u : Str, z.length ≤ 100 → u.length ≤ 100 → (Str.empty ++ z ++ u).length ≤ 200 := fun z u h h' => by
      rw [Str.length_append, Str.length_append]
      have : Str.empty.length = 0 := rfl
      omega
    have z1 : ∀ z : Str, z.length ≤ 100 → (Str.empty ++ z).length ≤ 100 := fun z h => by
      rw [Str.length_append]
      have : Str.empty.length = 0 := rfl
      omega
    have z3 : ∀ z u t : Str, z.length ≤ 100 → u.length ≤ 100 → t.length ≤ 100 → (Str.empty ++ z ++ u ++ t).length ≤ 300 := fun z u t h h' h2 => by
      rw [Str.length_append]
      have := z2 z u h h'
      omega
    have big : ∀ {n : Nat}, n ≤ 300 → n ≤ sizeLine := fun h => Nat.le_trans h (by decide)
    exact ⟨_, rfl, big (Nat.le_trans (z1 _ (by decide +kernel)) (by decide)), _, rfl, .inl ⟨y, rfl, big (by omega), _, rfl, big (Nat.le_trans (z2 _ y (by decide +kernel) hy) (by decide)), _, rfl, big (z3 _ y _ (by decide +kernel) hy (by decide +kernel)), by show 1 ≤ 1000; decide, ha, _, rfl, _, rfl, a, C, rfl, SC.oex, hno, .inl ⟨ha, fun dx h1 h2 => kk dx h1 h2⟩⟩⟩
end
end PA

set_option maxHeartbeats 4000000
namespace PA
open PySem L2 RZ
open C8 (pss_cut tCut)
abbrev tx (ss : List Str) : List V := ss.map V.str
theorem tx_flat (ss : List Str) : (tx ss).all flatV = true := by
  rw [List.all_eq_true]
  intro x hx
  obtain ⟨z, _, rfl⟩ := List.mem_map.mp hx
  rfl
theorem eqV_str (a b : Str) : eqV (.str a) (.str b) = decide (a = b) := by
  show (a == b) = decide (a = b)
  rw [Bool.eq_iff_iff]
  simp
theorem inV_tx (s : Str) (ss : List Str) : inV (.str s) (tx ss) = decide (s ∈ ss) := by
  unfold inV
  rw [Bool.eq_iff_iff, List.any_eq_true]
  simp only [decide_eq_true_eq]
  constructor
  · rintro ⟨x, hx, e⟩
    obtain ⟨z, hz, rfl⟩ := List.mem_map.mp hx
    rw [eqV_str, decide_eq_true_eq] at e
    rw [← e]
    exact hz
  · intro h
    exact ⟨.str s, List.mem_map.mpr ⟨s, h, rfl⟩, by rw [eqV_str, decide_eq_true_eq]⟩
def fR (N : Addr) (c : Int) : List (Str × V) := putF "cost" (.int c) (putF "names" (.ref N) [])
theorem nc_ : ¬ (("names" : Str) = "cost") := by decide +kernel
theorem fR_names (N : Addr) (c : Int) : (fR N c).lookup ("names" : Str) = some (.ref N) := by
  unfold fR
  rw [lookup_putF, if_neg nc_, lookup_putF, if_pos rfl]
theorem fR_cost (N : Addr) (c : Int) : (fR N c).lookup ("cost" : Str) = some (.int c) := by
  unfold fR
  rw [lookup_putF, if_pos rfl]
structure TxR (K : PySem.W.Frag) (C : Addr) : Prop where
  cl : Cls K C
  nN : NoAttr K C "names"
  nC : NoAttr K C "cost"
/-- a rival: the list of its names, its cost -/
def RivAt (C : Addr) (H : Hp) (p dx N : Addr) (ss : List Str) (c : Int) : Prop := H p = some (.ins C dx (fR N c)) ∧ H N = some (.lst (tx ss)) ∧ ss.Nodup ∧ ss.length ≤ 60
theorem idx_ok {ss : List Str} {s : Str} {j : Nat} (nd : ss.Nodup) (h : ss[j]? = some s) : (tx ss)[j]? = some (.str s) ∧ eqV (.str s) (.str s) = true ∧ ∀ (m : Nat) (z' : V), m < j → (tx ss)[m]? = some z' → eqV z' (.str s) = false := by
  refine ⟨by rw [List.getElem?_map, h]; rfl, by rw [eqV_str, decide_eq_true rfl], fun m z' hm hz => ?_⟩
  rw [List.getElem?_map, Option.map_eq_some_iff] at hz
  obtain ⟨z, hz, rfl⟩ := hz
  rw [eqV_str, decide_eq_false_iff_not]
  rintro rfl
  have h1 := (List.getElem?_eq_some_iff.mp hz)
  have h2 := (List.getElem?_eq_some_iff.mp h)
  obtain ⟨l1, e1⟩ := h1
  obtain ⟨l2, e2⟩ := h2
  exact List.pairwise_iff_getElem.mp nd m j l1 l2 hm (by rw [e1, e2])
/-- an own error of the text that is raised with its own __init__ -/
structure ErrR (K : PySem.W.Frag) (mg : Str → Option Value) (x fld : Str) (C fI : Addr) (fd : FuncData) : Prop where
  oex : OexC K C
  iC : PySem.W.findIn K (.ref C) "__init__" = some (some (.ref fI))
  tI : PySem.W.typeIn K (.ref fI) = some (.type "function")
  g : mg x = some (.ref C)
  b : Binds K fd ["self", fld] []
theorem raise_heap {H : Hp} {a dx C : Addr} {fs : List (Str × V)} (ha : H a = none) (ne : dx ≠ a) : upd (del (upd (upd (upd H a (exo a C none)) dx (exd dx fs)) a (exo a C (some dx))) a) dx (.xd fs) = upd H dx (.xd fs) := by
  funext b
  by_cases h1 : b = dx
  · subst h1
    rw [upd_same, upd_same]
  · rw [upd_ne h1, upd_ne h1]
    by_cases h2 : b = a
    · subst h2
      rw [del_same, ha]
    · rw [del_ne h2, upd_ne h2, upd_ne h1, upd_ne h2]
/-- raise E(v): how the wish lies -/
theorem raise_end {H : Hp} {C : Addr} {fld : Str} {v : V} {ok : V → Prop} {E : XK} (hv : ok v) (hE : ∀ d, H d = none → E (.ref C) (some d) (upd H d (.xd [(fld, v)]))) :
    ∀ a, H a = none → spErrI C fld ok (.ref a :: ([v] ++ [])) (upd H a (exo a C none)) (fun v' H2 => v' = .non ∧ ∃ (d : Addr) (fs : List (Str × V)), H2 a = some (exo a C (some d)) ∧ H2 d = some (exd d fs) ∧ H d = none ∧ E (.ref C) (some d) (upd (del H2 a) d (.xd fs))) (fun _ _ _ => False) := by
  intro a ha
  refine ⟨a, v, rfl, hv, upd_same, fun dx hdx ne => ⟨rfl, dx, [(fld, v)], upd_same, ?_, ?_, ?_⟩⟩
  · rw [upd_ne ne, upd_same]
  · rw [upd_ne ne] at hdx
    exact hdx
  · rw [raise_heap ha ne]
    refine hE dx ?_
    rw [upd_ne ne] at hdx
    exact hdx
def nmOk (v : V) : Prop := ∃ s : Str, v = .str s ∧ s.length ≤ 100
def spPlaceX (C CN : Addr) : Sp := fun vs H Q E => ∃ (p dx N : Addr) (ss : List Str) (c : Int) (s : Str), vs = [.ref p, .str s] ∧ RivAt C H p dx N ss c ∧ s.length ≤ 100 ∧ (∀ j : Nat, ss[j]? = some s → Q (.int (j : Nat)) H) ∧ (s ∉ ss → ∀ d, H d = none → E (.ref CN) (some d) (upd H d (.xd [("name", .str s)])))
section
variable {P : Program} {w : World} {K : PySem.W.Frag} {mg : Str → Option Value} {base : Heap} {C CN cN fN : Addr} {dN : FuncData}
theorem scPlace : FnScope ["self", "name"] ["self", "name"] (defScope sPlace) := ⟨rfl, rfl, rfl, by decide +kernel, rfl, by decide +kernel, by decide +kernel⟩
theorem ok_placeX {f : Addr} {fd : FuncData} (F : Fun K "_place" "Rival._place" sPlace f fd) (T : Txt K mg) (R : TxR K C) (EN : ErrR K mg "NoCase" "name" CN fN dN) (FN : SFn K "__init__" "NoCase.__init__" sENo CN cN fN dN) (SN : SupC P K mg CN cN) (hno : PySem.W.findIn K (.ref CN) "name" = some none) :
    FnOk P w K mg base (L2.CX P w) 3 f fd ["self", "name"] (spPlaceX C CN) := by
  have GN : FnOk P w K mg base (L2.CX P w) 1 fN dN ["self", "name"] (spErrI CN "name" nmOk) := ok_eNo FN SN hno
  refine F.okX scPlace (fun vs H Q E h => ?_) (fun cdv A outer s H vs Q E hr h => ?_)
  · obtain ⟨p, _, _, _, _, _, rfl, _⟩ := h
    rfl
  · obtain ⟨p, dx, N, ss, c, s, rfl, ⟨hp, hN, nd, l20⟩, hs, kq, ke⟩ := h
    refine ⟨_, pss_cons (ps_if (pt_cmpR op_notIn_seq (pv 1) (pe_fld (pv 0) rfl) rfl) (pss_one (ps_raise rfl (takes_of rfl rfl rfl rfl) (pmk_oex EN.oex EN.iC EN.tI GN hr EN.b .nil passL (by rfl) EN.g (pa_cons (pv 1) pa_nil)))) pss_nil)
      (pss_one (ps_ret (pe_bm PySem.F.plainAttrs_list PySem.F.slot_list_index PySem.F.type_list_index mt_index (pe_fld (pv 0) rfl) (pa_cons (pv 1) pa_nil)))), ?_⟩
    refine ⟨_, rfl, _, rfl, p, C, dx, _, _, rfl, hp, R.cl, R.nN, fR_names _ _, N, _, rfl, .inl (SqL.of hN), rfl, tx_flat _, _, rfl, ?_⟩
    show ite ((!inV (.str s) (tx ss)) = true) _ _
    rw [inV_tx]
    by_cases hm : s ∈ ss
    · rw [decide_eq_true hm]
      refine iteF ?_
      obtain ⟨j, hj⟩ := List.getElem?_of_mem hm
      obtain ⟨i1, i2, i3⟩ := idx_ok nd hj
      exact ⟨_, rfl, p, C, dx, _, _, rfl, hp, R.cl, R.nN, fR_names _ _, .inl ⟨rfl, _, SqL.of hN⟩, _, rfl, N, _, _, j, _, rfl, rfl, SqL.of hN, rfl, tx_flat _, i1, i2, i3, kq j hj⟩
    · rw [decide_eq_false hm]
      refine iteT ?_
      exact ⟨_, rfl, by show 1 ≤ 1000; decide, raise_end ⟨s, rfl, hs⟩ (ke hm)⟩
end
end PA

set_option maxHeartbeats 4000000
namespace PA
open PySem L2 RZ
open C8 (pss_cut tCut)
def spInitR (K : PySem.W.Frag) (C : Addr) : Sp := fun vs H Q _ => ∃ (p dx G : Addr) (ss : List Str), vs = [.ref p, .ref G] ∧ H p = some (.ins C dx []) ∧ Sq K H G (tx ss) ∧ ss.Nodup ∧ ss.length ≤ 60 ∧
  ∀ N H', RivAt C H' p dx N ss 0 → (∀ c o, H c = some o → c ≠ p → H' c = some o) → H N = none → Q .non H'
def spOrder (C : Addr) : Sp := fun vs H Q _ => ∃ (p dx N : Addr) (ss : List Str) (c : Int), vs = [.ref p] ∧ RivAt C H p dx N ss c ∧ ∀ q, H q = none → Q (.ref q) (upd H q (.lst (tx ss)))
def spDropX (C CN : Addr) : Sp := fun vs H Q E => ∃ (p dx N : Addr) (ss : List Str) (c : Int) (s : Str), vs = [.ref p, .str s] ∧ RivAt C H p dx N ss c ∧ s.length ≤ 100 ∧ (∀ j : Nat, ss[j]? = some s → Q .non (upd H N (.lst (tx (ss.eraseIdx j))))) ∧ (s ∉ ss → ∀ d, H d = none → E (.ref CN) (some d) (upd H d (.xd [("name", .str s)])))
/-- put, refused -/
def spPutX (C CT CM : Addr) : Sp := fun vs H Q E => ∃ (p dx N : Addr) (ss : List Str) (c : Int) (s : Str) (a : Int), vs = [.ref p, .str s, .int a] ∧ RivAt C H p dx N ss c ∧ s.length ≤ 100 ∧ (s ∈ ss ∨ ¬ (0 ≤ a ∧ a ≤ (ss.length : Int))) ∧ (s ∈ ss → ∀ d, H d = none → E (.ref CT) (some d) (upd H d (.xd [("name", .str s)]))) ∧
  (s ∉ ss → ∀ d, H d = none → E (.ref CM) (some d) (upd H d (.xd [("place", .int a)])))
/-- exchange, refused -/
def spExchX (C CM : Addr) : Sp := fun vs H Q E => ∃ (p dx N : Addr) (ss : List Str) (c : Int) (a : Int), vs = [.ref p, .int a] ∧ RivAt C H p dx N ss c ∧ ¬ (0 ≤ a ∧ a < (ss.length : Int) - 1) ∧ ∀ d, H d = none → E (.ref CM) (some d) (upd H d (.xd [("place", .int a)]))
def spCallX (C CN CM : Addr) : Sp := fun vs H Q E => ∃ (p dx N : Addr) (ss : List Str) (c : Int) (s : Str) (to : V), vs = [.ref p, .str s, to] ∧ RivAt C H p dx N ss c ∧ s.length ≤ 100 ∧ (to = .non ∨ ∃ a : Int, to = .int a) ∧ (s ∉ ss → ∀ d, H d = none → E (.ref CN) (some d) (upd H d (.xd [("name", .str s)]))) ∧
  ∀ j : Nat, ss[j]? = some s → ∃ a : Int, to = .int a ∧ ((∃ t : Nat, a = (t : Nat) ∧ t ≤ j ∧ Q .non (upd (upd H N (.lst (tx ((ss.eraseIdx j).take t ++ [s] ++ (ss.eraseIdx j).drop t)))) p (.ins C dx (fR N (c + j))))) ∨
    (¬ (0 ≤ a ∧ a ≤ (j : Int)) ∧ ∀ d, H d = none → E (.ref CM) (some d) (upd H d (.xd [("place", .int a)]))))
structure ErrsR (K : PySem.W.Frag) (P : Program) (mg : Str → Option Value) (CN CT CM : Addr) : Prop where
  no : ∃ cd f fd, ErrR K mg "NoCase" "name" CN f fd ∧ SFn K "__init__" "NoCase.__init__" sENo CN cd f fd ∧ SupC P K mg CN cd ∧ PySem.W.findIn K (.ref CN) "name" = some none
  there : ∃ cd f fd, ErrR K mg "CaseThere" "name" CT f fd ∧ SFn K "__init__" "CaseThere.__init__" sEThere CT cd f fd ∧ SupC P K mg CT cd ∧ PySem.W.findIn K (.ref CT) "name" = some none
  move : ∃ cd f fd, ErrR K mg "InvalidMove" "place" CM f fd ∧ SFn K "__init__" "InvalidMove.__init__" sEMove CM cd f fd ∧ SupC P K mg CM cd ∧ PySem.W.findIn K (.ref CM) "place" = some none
section
variable {P : Program} {w : World} {K : PySem.W.Frag} {mg : Str → Option Value} {base : Heap} {C CN CT CM : Addr}
theorem scOrder : FnScope ["self"] ["self"] (defScope sOrder) := ⟨rfl, rfl, rfl, by decide +kernel, rfl, by decide +kernel, by decide +kernel⟩
theorem ok_order {f : Addr} {fd : FuncData} (F : Fun K "order" "Rival.order" sOrder f fd) (T : Txt K mg) (R : TxR K C) : FnOk P w K mg base CX0 1 f fd ["self"] (spOrder C) := by
  refine F.ok scOrder (fun vs H Q E h => ?_) (fun cdv A outer s H vs Q E hr h => ?_)
  · obtain ⟨p, _, _, _, _, rfl, _⟩ := h
    rfl
  · obtain ⟨p, dx, N, ss, c, rfl, ⟨hp, hN, nd, l20⟩, kk⟩ := h
    refine ⟨_, pss_one (ps_ret (pe_callTy call_list_of (by rfl) T.list_ boot_list' (pa_cons (pe_fld (pv 0) rfl) pa_nil))), ?_⟩
    exact ⟨_, rfl, p, C, dx, _, _, rfl, hp, R.cl, R.nN, fR_names _ _, N, _, rfl, .inl (SqL.of hN), kk⟩
theorem tx_erase (ss : List Str) (j : Nat) : (tx ss).eraseIdx j = tx (ss.eraseIdx j) := by
  rw [List.eraseIdx_eq_take_drop_succ, List.eraseIdx_eq_take_drop_succ]
  simp [tx, List.map_take, List.map_drop]
theorem scDrop : FnScope ["self", "name"] ["self", "name"] (defScope sDrop) := ⟨rfl, rfl, rfl, by decide +kernel, rfl, by decide +kernel, by decide +kernel⟩
theorem seqIdx_nat {j n : Nat} (h : j < n) : seqIndex? ((j : Nat) : Int) n = some j := by
  unfold seqIndex?
  have e : ¬ (j : Int) < 0 := by omega
  have e2 : (j : Int) < (n : Int) := by omega
  simp [e, e2, h]
theorem ok_dropX {f g : Addr} {fd gd : FuncData} (F : Fun K "drop" "Rival.drop" sDrop f fd) (T : Txt K mg) (R : TxR K C) (X : ErrsR K P mg CN CT CM) (F1 : Fun K "_place" "Rival._place" sPlace g gd) (b1 : Binds K gd ["self", "name"] []) (m1 : Meth K C "_place" g) : FnOk P w K mg base (L2.CX P w) 4 f fd ["self", "name"] (spDropX C CN) := by
  obtain ⟨cN, fN, dN, EN, FN, SN, hno⟩ := X.no
  have G : FnOk P w K mg base (L2.CX P w) 3 g gd ["self", "name"] (spPlaceX C CN) := ok_placeX F1 T R EN FN SN hno
  refine F.okX scDrop (fun vs H Q E h => ?_) (fun cdv A outer s H vs Q E hr h => ?_)
  · obtain ⟨p, _, _, _, _, _, rfl, _⟩ := h
    rfl
  · obtain ⟨p, dx, N, ss, c, s, rfl, hv, hs, kq, ke⟩ := h
    obtain ⟨hp, hN, nd, l20⟩ := id hv
    refine ⟨_, pss_one (ps_expr (pe_bm PySem.F.plainAttrs_list PySem.F.slot_list_pop PySem.F.type_list_pop mt_popAt (pe_fld (pv 0) rfl) (pa_cons (pe_meth (E := E) (pv 0) R.cl m1 G hr b1 .nil (passes_call (takes_of rfl rfl rfl rfl) (fun _ _ _ _ z => z)) (pa_cons (pv 1) pa_nil)) pa_nil))), ?_⟩
    refine ⟨_, rfl, p, C, dx, _, _, rfl, hp, R.cl, R.nN, fR_names _ _, .inl ⟨rfl, _, SqL.of hN⟩, _, rfl, p, dx, _, rfl, hp, by unfold fR; rw [lookup_putF, if_neg (by decide +kernel), lookup_putF, if_neg (by decide +kernel)]; rfl, _, rfl, p, dx, N, ss, c, s, rfl, hv, hs, fun j hj => ?_, ke⟩
    have hjl := (List.getElem?_eq_some_iff.mp hj).1
    refine ⟨N, tx ss, (j : Nat), j, .str s, rfl, rfl, hN, by omega, by omega, ?_, by rw [List.getElem?_map, hj]; rfl, ?_⟩
    · rw [List.length_map]
      exact seqIdx_nat hjl
    · have e : (tx ss).eraseIdx j = tx (ss.eraseIdx j) := tx_erase ss j
      rw [e]
      exact kq j hj
theorem scPut : FnScope ["self", "name", "at"] ["self", "name", "at"] (defScope sPut) := ⟨rfl, rfl, rfl, by decide +kernel, rfl, by decide +kernel, by decide +kernel⟩
theorem ok_putX {f : Addr} {fd : FuncData} (F : Fun K "put" "Rival.put" sPut f fd) (T : Txt K mg) (R : TxR K C) (X : ErrsR K P mg CN CT CM) : FnOk P w K mg base (L2.CX P w) 3 f fd ["self", "name", "at"] (spPutX C CT CM) := by
  obtain ⟨cT, fT, dT, ET, FT, ST, hnoT⟩ := X.there
  obtain ⟨cM, fM, dM, EM, FM, SM, hnoM⟩ := X.move
  have GT : FnOk P w K mg base (L2.CX P w) 1 fT dT ["self", "name"] (spErrI CT "name" nmOk) := ok_eThere FT ST hnoT
  have GM : FnOk P w K mg base (L2.CX P w) 1 fM dM ["self", "place"] (spErrI CM "place" fun _ => True) := ok_eMove FM SM hnoM
  refine F.okX scPut (fun vs H Q E h => ?_) (fun cdv A outer s H vs Q E hr h => ?_)
  · obtain ⟨p, _, _, _, _, _, _, rfl, _⟩ := h
    rfl
  · obtain ⟨p, dx, N, ss, c, s, a, rfl, ⟨hp, hN, nd, l20⟩, hs, hbad, kt, km⟩ := h
    refine ⟨_, pss_cons (ps_if (pt_cmpR op_in_seq (pv 1) (pe_fld (pv 0) rfl) rfl) (pss_one (ps_raise rfl (takes_of rfl rfl rfl rfl) (pmk_oex ET.oex ET.iC ET.tI GT hr ET.b .nil passL (by rfl) ET.g (pa_cons (pv 1) pa_nil)))) pss_nil)
      (pss_cons (ps_if (pt_not (pt_chain op_le op_le pe_int (pv 2) (pe_callB call_len_seq (by rfl) T.len_ PySem.boot_len (pa_cons (pe_fld (pv 0) rfl) pa_nil)))) (pss_one (ps_raise rfl (takes_of rfl rfl rfl rfl) (pmk_oex EM.oex EM.iC EM.tI GM hr EM.b .nil passL (by rfl) EM.g (pa_cons (pv 2) pa_nil)))) pss_nil)
      (pss_one (ps_expr (pe_bm PySem.F.plainAttrs_list PySem.F.slot_list_insert PySem.F.type_list_insert mt_insert (pe_fld (pv 0) rfl) (pa_cons (pv 2) (pa_cons (pv 1) pa_nil)))))), ?_⟩
    refine ⟨_, rfl, _, rfl, p, C, dx, _, _, rfl, hp, R.cl, R.nN, fR_names _ _, N, _, rfl, .inl (SqL.of hN), rfl, tx_flat _, _, rfl, ?_⟩
    show ite ((inV (.str s) (tx ss)) = true) _ _
    rw [inV_tx]
    by_cases hm : s ∈ ss
    · rw [decide_eq_true hm]
      exact iteT ⟨_, rfl, by show 1 ≤ 1000; decide, raise_end ⟨s, rfl, hs⟩ (kt hm)⟩
    · rw [decide_eq_false hm]
      refine iteF ?_
      have hb : ¬ (0 ≤ a ∧ a ≤ (ss.length : Int)) := hbad.resolve_left hm
      have fin := raise_end (ok := fun _ => True) (v := .int a) True.intro (km hm)
      refine ⟨_, rfl, _, _, rfl, rfl, _, rfl, ifD_2 (fun h0 => ⟨_, rfl, p, C, dx, _, _, rfl, hp, R.cl, R.nN, fR_names _ _, N, _, rfl, .inl (SqL.of hN), ?_⟩) (fun h0 => ?_)⟩
      · rw [List.length_map]
        refine ⟨_, _, rfl, rfl, _, rfl, ?_⟩
        rw [decide_eq_false (by omega : ¬ a ≤ ((ss.length : Nat) : Int))]
        exact iteT ⟨_, rfl, by show 1 ≤ 1000; decide, fin⟩
      · exact ⟨_, rfl, iteT ⟨_, rfl, by show 1 ≤ 1000; decide, fin⟩⟩
theorem scExch : FnScope ["self", "at"] ["self", "at"] (defScope sExch) := ⟨rfl, rfl, rfl, by decide +kernel, rfl, by decide +kernel, by decide +kernel⟩
theorem ok_exchX {f : Addr} {fd : FuncData} (F : Fun K "exchange" "Rival.exchange" sExch f fd) (T : Txt K mg) (R : TxR K C) (X : ErrsR K P mg CN CT CM) : FnOk P w K mg base (L2.CX P w) 3 f fd ["self", "at"] (spExchX C CM) := by
  obtain ⟨cM, fM, dM, EM, FM, SM, hnoM⟩ := X.move
  have GM : FnOk P w K mg base (L2.CX P w) 1 fM dM ["self", "place"] (spErrI CM "place" fun _ => True) := ok_eMove FM SM hnoM
  refine F.okX scExch (fun vs H Q E h => ?_) (fun cdv A outer s H vs Q E hr h => ?_)
  · obtain ⟨p, _, _, _, _, _, rfl, _⟩ := h
    rfl
  · obtain ⟨p, dx, N, ss, c, a, rfl, ⟨hp, hN, nd, l20⟩, hb, km⟩ := h
    refine ⟨_, pss_cons (ps_if (pt_not (pt_chain op_le op_lt pe_int (pv 1) (pe_op op_sub (pe_callB call_len_seq (by rfl) T.len_ PySem.boot_len (pa_cons (pe_fld (pv 0) rfl) pa_nil)) pe_int))) (pss_one (ps_raise rfl (takes_of rfl rfl rfl rfl) (pmk_oex EM.oex EM.iC EM.tI GM hr EM.b .nil passL (by rfl) EM.g (pa_cons (pv 1) pa_nil)))) pss_nil)
      (pss_cons (ps_asg (pe_tup (pa_cons (pe_ix ix_list (pe_fld (pv 0) rfl) (pe_op op_add (pv 1) pe_int) (fun _ _ => rfl)) (pa_cons (pe_ix ix_list (pe_fld (pv 0) rfl) (pv 1) (fun _ _ => rfl)) pa_nil)))
        (pg_tup rfl (pgs_cons (pg_sub (pe_fld (pv 0) rfl) (pv 1) set_list) (pgs_cons (pg_sub (pe_fld (pv 0) rfl) (pe_op op_add (pv 1) pe_int) set_list) pgs_nil))))
      (pss_one (ps_fldaug (pv 0) pe_int in_add))), ?_⟩
    have fin := raise_end (ok := fun _ => True) (v := .int a) True.intro km
    refine ⟨_, rfl, _, _, rfl, rfl, _, rfl, ifD_2 (fun h0 => ⟨_, rfl, p, C, dx, _, _, rfl, hp, R.cl, R.nN, fR_names _ _, N, _, rfl, .inl (SqL.of hN), ?_⟩) (fun h0 => ?_)⟩
    · rw [List.length_map]
      refine ⟨_, _, rfl, rfl, _, _, rfl, rfl, _, rfl, ?_⟩
      rw [decide_eq_false (by omega : ¬ a < ((ss.length : Nat) : Int) - 1)]
      exact iteT ⟨_, rfl, by show 1 ≤ 1000; decide, fin⟩
    · exact ⟨_, rfl, iteT ⟨_, rfl, by show 1 ≤ 1000; decide, fin⟩⟩
theorem putF_fR (N : Addr) (c d : Int) : putF "cost" (.int d) (fR N c) = fR N d := by
  rfl
theorem fR_no (N : Addr) (c : Int) {m : Str} (h1 : ¬ m = "cost") (h2 : ¬ m = "names") : (fR N c).lookup m = none := by
  unfold fR
  rw [lookup_putF, if_neg h1, lookup_putF, if_neg h2]
  rfl
theorem scCallR : FnScope ["self", "name", "to", "place"] ["self", "name", "to"] (defScope sCall) := ⟨rfl, rfl, rfl, by decide +kernel, rfl, by decide +kernel, by decide +kernel⟩
abbrev FunC (K : PySem.W.Frag) (f : Addr) (fd : FuncData) : Prop := FunD K "call" "Rival.call" (defArgs sCall) (defBody sCall) (defScope sCall) [V.non] [] f fd
theorem ok_callX {f g : Addr} {fd gd : FuncData} (F : FunC K f fd) (T : Txt K mg) (R : TxR K C) (X : ErrsR K P mg CN CT CM) (F1 : Fun K "_place" "Rival._place" sPlace g gd) (b1 : Binds K gd ["self", "name"] []) (m1 : Meth K C "_place" g) : FnOk P w K mg base (L2.CX P w) 4 f fd ["self", "name", "to"] (spCallX C CN CM) := by
  obtain ⟨cN, fN, dN, EN, FN, SN, hno⟩ := X.no
  obtain ⟨cM, fM, dM, EM, FM, SM, hnoM⟩ := X.move
  have G : FnOk P w K mg base (L2.CX P w) 3 g gd ["self", "name"] (spPlaceX C CN) := ok_placeX F1 T R EN FN SN hno
  have GM : FnOk P w K mg base (L2.CX P w) 1 fM dM ["self", "place"] (spErrI CM "place" fun _ => True) := ok_eMove FM SM hnoM
  refine F.ok scCallR (fun vs H Q E h => ?_) (fun cdv A outer s H vs Q E hr h => ?_)
  · obtain ⟨p, _, _, _, _, _, _, rfl, _⟩ := h
    rfl
  · obtain ⟨p, dx, N, ss, c, s, to, rfl, hv, hs, hto, ke, kq⟩ := h
    obtain ⟨hp, hN, nd, l20⟩ := id hv
    have pN : p ≠ N := ne_of hp hN (by intro z; cases z)
    have hr2 : Room 2 _ := hr.mono (by decide)
    refine ⟨_, pss_cons (ps_set (i := 3) scCallR.nd rfl (Or.inl rfl) (pe_meth (E := E) (pv 0) R.cl m1 G hr b1 .nil (passes_call (takes_of rfl rfl rfl rfl) (fun _ _ _ _ z => z)) (pa_cons (pv 1) pa_nil)))
      (pss_cons (ps_if (pt_cmpR op_notN (pv 2) pe_non (nomark _)) (pss_cons (ps_if (pt_not (pt_chain op_le op_le pe_int (pv 2) (pv 3))) (pss_one (ps_raise rfl (takes_of rfl rfl rfl rfl) (pmk_oex EM.oex EM.iC EM.tI GM hr2 EM.b .nil passL (by rfl) EM.g (pa_cons (pv 2) pa_nil)))) pss_nil)
        (pss_cons (ps_expr (pe_bm PySem.F.plainAttrs_list PySem.F.slot_list_pop PySem.F.type_list_pop mt_popAt (pe_fld (pv 0) rfl) (pa_cons (pv 3) pa_nil)))
        (pss_one (ps_expr (pe_bm PySem.F.plainAttrs_list PySem.F.slot_list_insert PySem.F.type_list_insert mt_insert (pe_fld (pv 0) rfl) (pa_cons (pv 2) (pa_cons (pv 1) pa_nil))))))) pss_nil)
      (pss_one (ps_fldaug (pv 0) (pv 3) in_add))), ?_⟩
    refine ⟨_, rfl, p, dx, _, rfl, hp, fR_no _ _ (by decide +kernel) (by decide +kernel), _, rfl, p, dx, N, ss, c, s, rfl, hv, hs, fun j hj => ?_, ke⟩
    have jl := (List.getElem?_eq_some_iff.mp hj).1
    obtain ⟨a, rfl, hcase⟩ := kq j hj
    refine ⟨_, rfl, rfl, _, rfl, iteT ?_⟩
    rcases hcase with ⟨t, rfl, htj, kk⟩ | ⟨hb, km⟩
    · refine ⟨_, rfl, _, _, rfl, rfl, _, rfl, ifD_yes (by omega) ⟨_, rfl, _, _, rfl, rfl, _, rfl, ?_⟩⟩
      rw [decide_eq_true (by omega : ((t : Nat) : Int) ≤ ((j : Nat) : Int))]
      refine iteF ?_
      refine ⟨_, rfl, p, C, dx, _, _, rfl, hp, R.cl, R.nN, fR_names _ _, .inl ⟨rfl, _, SqL.of hN⟩, _, rfl, N, tx ss, (j : Nat), j, .str s, rfl, rfl, hN, by omega, by omega, by rw [List.length_map]; exact seqIdx_nat jl, by rw [List.getElem?_map, hj]; rfl, ?_⟩
      rw [tx_erase]
      have hN1 : (upd H N (.lst (tx (ss.eraseIdx j)))) N = some (.lst (tx (ss.eraseIdx j))) := upd_same
      have hp1 : (upd H N (.lst (tx (ss.eraseIdx j)))) p = some (.ins C dx (fR N c)) := by rw [upd_ne pN]; exact hp
      refine ⟨_, rfl, p, C, dx, _, _, rfl, hp1, R.cl, R.nN, fR_names _ _, .inl ⟨rfl, _, SqL.of hN1⟩, _, rfl, _, rfl, N, tx (ss.eraseIdx j), (t : Nat), .str s, rfl, rfl, hN1, ?_, by omega, by omega, ?_⟩
      · rw [List.length_map]
        exact Nat.lt_of_le_of_lt (Nat.le_trans (List.length_eraseIdx_le ..) l20) (by decide)
      · have e : (tx (ss.eraseIdx j)).take ((t : Nat) : Int).toNat ++ [V.str s] ++ (tx (ss.eraseIdx j)).drop ((t : Nat) : Int).toNat = tx ((ss.eraseIdx j).take t ++ [s] ++ (ss.eraseIdx j).drop t) := by
          rw [Int.toNat_natCast]
          simp [tx]
        rw [e]
        have hp2 : (upd (upd H N (.lst (tx (ss.eraseIdx j)))) N (.lst (tx ((ss.eraseIdx j).take t ++ [s] ++ (ss.eraseIdx j).drop t)))) p = some (.ins C dx (fR N c)) := by rw [upd_ne pN]; exact hp1
        refine ⟨_, rfl, p, C, dx, _, _, rfl, hp2, R.cl, R.nC, fR_cost _ _, _, rfl, _, _, rfl, rfl, dx, fR N c, hp2, (by show 2 < 1000; decide), ?_⟩
        rw [upd_upd]
        exact kk
    · have fin := raise_end (ok := fun _ => True) (v := .int a) True.intro km
      refine ⟨_, rfl, _, _, rfl, rfl, _, rfl, ifD_2 (fun h0 => ⟨_, rfl, _, _, rfl, rfl, _, rfl, ?_⟩) (fun h0 => ?_)⟩
      · rw [decide_eq_false (by omega : ¬ a ≤ ((j : Nat) : Int))]
        exact iteT ⟨_, rfl, by show 1 ≤ 1000; decide, fin⟩
      · exact ⟨_, rfl, iteT ⟨_, rfl, by show 1 ≤ 1000; decide, fin⟩⟩
theorem scInitR : FnScope ["self", "names"] ["self", "names"] (defScope sInit) := ⟨rfl, rfl, rfl, by decide +kernel, rfl, by decide +kernel, by decide +kernel⟩
theorem ok_initR {f : Addr} {fd : FuncData} (F : Fun K "__init__" "Rival.__init__" sInit f fd) (T : Txt K mg) (R : TxR K C) : FnOk P w K mg base CX0 1 f fd ["self", "names"] (spInitR K C) := by
  refine F.ok scInitR (fun vs H Q E h => ?_) (fun cdv A outer s H vs Q E hr h => ?_)
  · obtain ⟨p, _, _, _, rfl, _⟩ := h
    rfl
  · obtain ⟨p, dx, G, ss, rfl, hp, hG, nd, l20, kk⟩ := h
    refine ⟨_, pss_cons (ps_fld (pv 0) (pe_callTy call_list_of (by rfl) T.list_ boot_list' (pa_cons (pv 1) pa_nil)) rfl)
      (pss_one (ps_fld (pv 0) pe_int rfl)), ?_⟩
    refine ⟨_, rfl, G, _, rfl, hG, fun N hN => ?_⟩
    have pN : p ≠ N := ne_of_none hp hN
    have hp1 : (upd H N (.lst (tx ss))) p = some (.ins C dx []) := by rw [upd_ne pN]; exact hp
    refine ⟨_, rfl, p, C, dx, _, rfl, hp1, R.cl, R.nN, (by show 0 < 1000; decide), ?_⟩
    refine ⟨_, rfl, p, C, dx, _, rfl, upd_same, R.cl, R.nC, (by show 1 < 1000; decide), ?_⟩
    refine kk N _ ⟨upd_same, ?_, nd, l20⟩ (fun c' o e ne => ?_) hN
    · rw [upd_ne pN.symm, upd_ne pN.symm]
      exact upd_same
    · rw [upd_ne ne, upd_ne ne, upd_ne (ne_of_none e hN)]
      exact e
end
end PA

set_option maxHeartbeats 4000000
/-! a try whose clauses all give the exception a name -/
namespace L2
open PySem PySem.Spec PyProof.Rows
/-- a clause: the class, the slot of its name, its suite's reading -/
abbrev ACl := Value × Nat × (Addr → Value → Option Addr → TS)
/-- ends behind a suite whose name goes -/
def goneE (i : Nat) (D : Ends) : Ends := { nx := fun σ' H' => D.nx (σ'.set i none) H', rt := D.rt, bk := fun σ' H' => D.bk (σ'.set i none) H', ct := fun σ' H' => D.ct (σ'.set i none) H' }
/-- what the clauses wish, one behind the other -/
def wAll (K : PySem.W.Frag) (Wout : WX) (D : Ends) : List ACl → WX
  | [] => Wout
  | z :: r => fun cls d σ H => ∃ b, PySem.W.exmOne K cls z.1 = some b ∧ (b = true → ∀ a, H a = none → z.2.2 a cls d (goneE z.2.1 D) (σ.set z.2.1 (some (.ref a))) H) ∧ (b = false → wAll K Wout D r cls d σ H)
/-- an exception that lies before clauses -/
structure Lies (X : Cx) (pins : List (Addr × Obj)) (σ : L2.St) (H : Hp) (B : Heap) (a : Addr) (cls : Value) (d : Option Addr) (s : Shared) : Prop where
  ok : X.Ok
  fl : HandSPX.FlyingZ B (X.env :: X.outer) a (Zc cls d) s.heap
  inv : ∀ h', HandSPX.FlyingZ B (X.env :: X.outer) a (Zc cls d) h' → s.heap.UpToSlots h' → Inv X pins σ H { s with heap := h' }
  now : Inv X pins σ H s
  na : H a = none
  nL : a ≠ X.env.locals
  nF : a ∉ X.fs
section
variable {X : Cx} {pins : List (Addr × Obj)} {σ : L2.St} {H : Hp} {B : Heap} {a : Addr} {cls c : Value} {d : Option Addr} {s : Shared} {D : Ends} {x n : Str} {i : Nat} {b : Bool} {b₀ : Stmt} {suite : List Stmt} {np pos' : Pos} {hds : List ExceptHandler} {ts : Addr → Value → Option Addr → TS}
theorem Lies.clause (L : Lies X pins σ H B a cls d s) (hN : X.N.Nodup) (hi : X.N[i]? = some n) (hln : X.env.kindOf n = some .local) (hc : Names X x c)
    (hsu : ∀ (a : Addr) (oe : Obj) (cls : Value) (d : Option Addr) (pn : List (Addr × Obj)), Zc cls d oe → (∃ vs, oe.data = .fields vs) → PSs (X.suite a ((a, oe) :: pn)) (b₀ :: suite) (ts a cls d))
    (hb : PySem.W.exmOne X.K cls c = some b) (yes : b = true → ts a cls d (goneE i D) (σ.set i (some (.ref a))) H) (no : b = false → wpAny (model X.prog X.w) X.A (handleBy (.ref a) X.env hds) (SP X pins D) X.xe s) :
    wpAny (model X.prog X.w) X.A (handleBy (.ref a) X.env (.ExceptHandler (some (.Name x np)) (some n) (b₀ :: suite) pos' :: hds)) (SP X pins D) X.xe s := by
  obtain ⟨oe, vs, he, hz, hd⟩ := L.fl.there
  have S := L.now.suite he hd L.na L.nL L.nF
  refine wpAny_handleBy_cons (codeAny_handlers_test ?_) (by intro q; cases q)
  have LM := PySem.W.exm_one (M := model X.prog X.w) L.now.kIn (fun A Q E s k q => wpAny_typeOf_ref (k _ _ he) (by rw [hz.1]; exact q)) hb
  have go : ∀ {Q : Value → Shared → Prop} {E : Value → Shared → Prop}, Q c s → wpAny (model X.prog X.w) (X.A.mark (some (.ref a))) (eval (.Name x np) X.env) Q E s := fun {Q E} q => by
    obtain ⟨hg, hdb, h | ⟨h, hv, hn⟩⟩ := hc
    · exact ld_glob (X := X.suite a ((a, oe) :: (X.pn ++ pins))) S hg h q hdb
    · exact ld_blt (X := X.suite a ((a, oe) :: (X.pn ++ pins))) S hg h hv q hn hdb
  refine go (LM.here ?_)
  cases b with
  | false => exact no rfl
  | true =>
    refine codeAny_handlers_suite_as (HandSPX.lands_againZ L.fl fun h4 fl4 up4 => ?_)
    obtain ⟨oe4, vs4, he4, hz4, hd4⟩ := fl4.there
    have S4 := (L.inv h4 fl4 up4).suite he4 hd4 L.na L.nL L.nF
    refine store_ok (X := X.suite a ((a, oe4) :: (X.pn ++ pins))) (v := .ref a) S4 hN hi (.inl hln) rfl (fun s5 S5 => ?_) (.inr hln)
    refine wpAny_mono ((hsu a oe4 cls d (X.pn ++ pins) hz4 ⟨_, hd4⟩).run [] s5 _ H _ S5 (yes rfl)) (fun f s6 hsp => ?_) (fun _ _ z => False.elim z)
    cases f <;> first
      | (obtain ⟨σ6, H6, S6, q6⟩ := hsp; exact gone_ok (S6.unsuite L.ok) hN hi hln fun s7 J7 => ⟨_, _, J7, q6⟩)
      | (obtain ⟨v6, σ6, H6, S6, r6, q6⟩ := hsp; exact gone_ok (S6.unsuite L.ok) hN hi hln fun s7 J7 => ⟨_, _, _, J7, r6, q6⟩)
inductive ClOk (X : Cx) : List ExceptHandler → List ACl → Prop
  | nil : ClOk X [] []
  | cons {x n : Str} {c : Value} {i : Nat} {ts : Addr → Value → Option Addr → TS} {b₀ : Stmt} {suite : List Stmt} {np pos' : Pos} {hds : List ExceptHandler} {l : List ACl} (hi : X.N[i]? = some n) (hln : X.env.kindOf n = some .local) (hc : Names X x c)
      (hsu : ∀ (a : Addr) (oe : Obj) (cls : Value) (d : Option Addr) (pn : List (Addr × Obj)), Zc cls d oe → (∃ vs, oe.data = .fields vs) → PSs (X.suite a ((a, oe) :: pn)) (b₀ :: suite) (ts a cls d)) (r : ClOk X hds l) :
      ClOk X (.ExceptHandler (some (.Name x np)) (some n) (b₀ :: suite) pos' :: hds) ((c, i, ts) :: l)
theorem Lies.all {l : List ACl} (L : Lies X pins σ H B a cls d s) (hN : X.N.Nodup) (hk : ClOk X hds l) (w : wAll X.K (fun _ _ _ _ => False) D l cls d σ H) : wpAny (model X.prog X.w) X.A (handleBy (.ref a) X.env hds) (SP X pins D) X.xe s := by
  induction hk with
  | nil => exact w.elim
  | cons hi hln hc hsu _ ih =>
    obtain ⟨b, hb, yes, no⟩ := w
    exact L.clause hN hi hln hc hsu hb (fun e => yes e a L.na) fun e => ih (no e)
/-- try: body / except C1 as n1: .. / except C2 as n2: .., every exception of the body taken -/
theorem ps_try_all {body : List Stmt} {h₀ : ExceptHandler} {l : List ACl} {pos : Pos} {tb : WX → TS} (hs : X.stack = X.env :: X.outer) (hf : X.env.frame = some X.env.locals) (hN : X.N.Nodup)
    (hb : ∀ (W : WX) (pn : List (Addr × Obj)) (xe : Value → Shared → Prop), Takes (X.tr pn xe) W → PassesOwn (model X.prog X.w) X.A X.env xe → PSs (X.tr pn xe) body (tb W)) (hh : ClOk X (h₀ :: hds) l) :
    PS X (.Try body (h₀ :: hds) [] [] pos) (fun D σ H => tb (wAll X.K (fun _ _ _ _ => False) D l) D σ H) := by
  refine ⟨fun pins s σ H D I h => ?_⟩
  have ok := I.ok
  refine wpAny_Try_except (wpAny_mono ((hb (wAll X.K (fun _ _ _ _ => False) D l) (X.pn ++ pins) (fun e s₁ => wpAny (model X.prog X.w) X.A (noteFrame e X.env) (fun _ s₂ => wpAny (model X.prog X.w) X.A (setFlight e none) (fun _ s₃ =>
    wpAny (model X.prog X.w) X.A (handleBy e X.env (h₀ :: hds)) (SP X pins D) X.xe s₃) X.xe s₂) X.xe s₁) (fun u s' xx => ?_) PassesOwn.looking).run [] s σ H D (I.toTry _) h) (fun f s1 hsp => ?_) fun _ _ z => z)
  · obtain ⟨a, B, sI, pins', σ', H', cls, d, rfl, J', nb, up, sky, na, os, ag, w⟩ := xx
    have J : Inv X pins σ' H' sI := J'.ofTry ok
    refine Sky.land Zc.steady (by rw [ok.frames, hs]) hf (by rw [← hs]; exact sky) fun h3 fl3 up3 => ?_
    obtain ⟨oe, vs, he, hz, hd⟩ := fl3.there
    have nfr : a ∉ frs (X.env :: X.outer) := fun hm => by
      obtain ⟨_, o', e', hnf⟩ := fl3.2.2.1.mem hm
      rw [he] at e'
      cases e'
      exact hnf _ hd
    refine Lies.all (B := B) (d := d) ⟨ok, fl3, fun h' fl' up' => J.landed nb fl'.1 ((up.trans up3).trans up') os ag, J.landed nb fl3.1 (up.trans up3) os ag, na, fun z => nfr (List.mem_filterMap.mpr ⟨X.env, List.mem_cons_self, by rw [hf, z]⟩), fun hm => ?_⟩ hN hh w
    obtain ⟨e, he, q⟩ := List.mem_filterMap.mp hm
    exact nfr (List.mem_filterMap.mpr ⟨e, List.mem_cons_of_mem _ he, q⟩)
  · cases f with
    | next => exact let ⟨_, _, J', q⟩ := hsp; wpAny_execs_nil ⟨_, _, J'.ofTry ok, q⟩
    | brk => exact let ⟨_, _, J', q⟩ := hsp; ⟨_, _, J'.ofTry ok, q⟩
    | cont => exact let ⟨_, _, J', q⟩ := hsp; ⟨_, _, J'.ofTry ok, q⟩
    | ret u => exact let ⟨_, _, _, J', r, q⟩ := hsp; ⟨_, _, _, J'.ofTry ok, r, q⟩
end
end L2

set_option maxHeartbeats 8000000
namespace PA
open PySem L2 RZ
open C8 (pss_cut tCut)
theorem passes_len {X : Cx} {W : WX} {n : Nat} (tk : Takes X W) (hn : X.N.length = n) : Passes (CX X.prog X.w) X (fun cls d H => ∀ σ : L2.St, σ.length = n → W cls d σ H) := by
  intro pins σ H s e s' I h
  obtain ⟨a, B, H', cls, d, h1, h2, h3, h4, h5, h6, h7, h8⟩ := h
  exact passAt tk σ pins H s e s' I ⟨a, B, H', cls, d, h1, h2, h3, h4, h5, h6, h7, h8 σ (I.len.trans hn)⟩

theorem iteYes {b : Bool} {P Q : Prop} (hb : b = true) (h : P) : if b = true then P else Q := by rw [if_pos hb]; exact h
theorem iteNo {b : Bool} {P Q : Prop} (hb : b = false) (h : Q) : if b = true then P else Q := by rw [hb]; exact h
theorem same_xd {H : Hp} {d L : Addr} {o u : HO} (hd : H d = none) (hL : (upd H d o) L = none) : Same H (upd (upd H d o) L u) := fun b o' e => new_ hL _ _ (new_ hd _ _ e)
theorem lk1 (n : Str) (v : V) : List.lookup n [(n, v)] = some v := by simp [List.lookup]
inductive Mv where
  | call (s : Str) (a : Option Int)
  | exch (a : Int)
  | put (s : Str) (a : Int)
  | drop (s : Str)
def optV : Option Int → V
  | none => .non
  | some a => .int a
def mvL : Mv → List V
  | .call s a => [.str "call", .str s, optV a]
  | .exch a => [.str "exchange", .int a]
  | .put s a => [.str "put", .str s, .int a]
  | .drop s => [.str "drop", .str s]
/-- the move is refused so -/
inductive BadMv (ss : List Str) : Mv → Str → V → Prop
  | callNo {s : Str} {a : Option Int} (h : s ∉ ss) (hl : s.length ≤ 100) : BadMv ss (.call s a) "NoCase" (.str s)
  | callOut {s : Str} {j : Nat} {a : Int} (h : ss[j]? = some s) (nd : ss.Nodup) (hl : s.length ≤ 100) (hb : ¬ (0 ≤ a ∧ a ≤ (j : Int))) : BadMv ss (.call s (some a)) "InvalidMove" (.int a)
  | exch {a : Int} (hb : ¬ (0 ≤ a ∧ a < (ss.length : Int) - 1)) : BadMv ss (.exch a) "InvalidMove" (.int a)
  | putThere {s : Str} {a : Int} (h : s ∈ ss) (hl : s.length ≤ 100) : BadMv ss (.put s a) "CaseThere" (.str s)
  | putOut {s : Str} {a : Int} (h : s ∉ ss) (hl : s.length ≤ 100) (hb : ¬ (0 ≤ a ∧ a ≤ (ss.length : Int))) : BadMv ss (.put s a) "InvalidMove" (.int a)
  | dropNo {s : Str} (h : s ∉ ss) (hl : s.length ≤ 100) : BadMv ss (.drop s) "NoCase" (.str s)
abbrev NPMove : List Str := ["_law_rival", "_law_move", "error"]
def spPMove (C : Addr) : Sp := fun vs H Q _ => ∃ (p t dx N : Addr) (ss : List Str) (c : Int) (mv : Mv) (x : Str) (v : V), vs = [.ref p, .ref t] ∧ RivAt C H p dx N ss c ∧ H t = some (.tup (mvL mv)) ∧ BadMv ss mv x v ∧ ∀ L H', Same H H' → H' L = some (.lst [.str x, v]) → Q (.ref L) H'
structure HandR (K : PySem.W.Frag) (CN CT CM : Addr) : Prop where
  xN : XfC K CN
  xT : XfC K CT
  xM : XfC K CM
  nn : PySem.W.exmOne K (.ref CN) (.ref CN) = some true
  tn : PySem.W.exmOne K (.ref CT) (.ref CN) = some false
  tt : PySem.W.exmOne K (.ref CT) (.ref CT) = some true
  mn : PySem.W.exmOne K (.ref CM) (.ref CN) = some false
  mt : PySem.W.exmOne K (.ref CM) (.ref CT) = some false
  mm : PySem.W.exmOne K (.ref CM) (.ref CM) = some true
section
variable {P : Program} {w : World} {K : PySem.W.Frag} {mg : Str → Option Value} {base : Heap} {C CN CT CM : Addr}
def suiteT (x fld : Str) (C : Addr) : Addr → Value → Option Addr → TS := fun a cls d => tRet (tLst (tCons (tC (V.str x)) (tCons (tXf a cls d C fld (tVar 2)) tNil)))
def cls3 (CN CT CM : Addr) : List ACl := [(Value.ref CN, 2, suiteT "NoCase" "name" CN), (Value.ref CT, 2, suiteT "CaseThere" "name" CT), (Value.ref CM, 2, suiteT "InvalidMove" "place" CM)]
/-- the suite that is run: the name of the class, and what the error holds -/
theorem suite_end {H : Hp} {d a E : Addr} {D : Ends} {σ : L2.St} {x fld : Str} {v : V} (hσ : σ.length = 3) (hd : H d = none) (k : ∀ L H', Same H H' → H' L = some (.lst [.str x, v]) → D.rt (.ref L) H') :
    suiteT x fld E a (.ref E) (some d) (goneE 2 D) (σ.set 2 (some (.ref a))) (upd H d (.xd [(fld, v)])) := by
  match σ, hσ with
  | [y0, y1, y2], _ =>
    exact ⟨_, rfl, rfl, rfl, d, _, v, rfl, upd_same, lk1 _ _, by show 2 ≤ sizeLine; decide, fun L hL => k L _ (same_xd hd hL) upd_same⟩
theorem endN (HR : HandR K CN CT CM) {H : Hp} {d : Addr} {D : Ends} {σ : L2.St} {v : V} (hσ : σ.length = 3) (hd : H d = none) (k : ∀ L H', Same H H' → H' L = some (.lst [.str "NoCase", v]) → D.rt (.ref L) H') :
    wAll K (fun _ _ _ _ => False) D (cls3 CN CT CM) (.ref CN) (some d) σ (upd H d (.xd [("name", v)])) :=
  ⟨true, HR.nn, fun _ a _ => suite_end hσ hd k, (fun z => by cases z)⟩
theorem endT (HR : HandR K CN CT CM) {H : Hp} {d : Addr} {D : Ends} {σ : L2.St} {v : V} (hσ : σ.length = 3) (hd : H d = none) (k : ∀ L H', Same H H' → H' L = some (.lst [.str "CaseThere", v]) → D.rt (.ref L) H') :
    wAll K (fun _ _ _ _ => False) D (cls3 CN CT CM) (.ref CT) (some d) σ (upd H d (.xd [("name", v)])) :=
  ⟨false, HR.tn, (fun z => by cases z), fun _ => ⟨true, HR.tt, fun _ a _ => suite_end hσ hd k, (fun z => by cases z)⟩⟩
theorem endM (HR : HandR K CN CT CM) {H : Hp} {d : Addr} {D : Ends} {σ : L2.St} {v : V} (hσ : σ.length = 3) (hd : H d = none) (k : ∀ L H', Same H H' → H' L = some (.lst [.str "InvalidMove", v]) → D.rt (.ref L) H') :
    wAll K (fun _ _ _ _ => False) D (cls3 CN CT CM) (.ref CM) (some d) σ (upd H d (.xd [("place", v)])) :=
  ⟨false, HR.mn, (fun z => by cases z), fun _ => ⟨false, HR.mt, (fun z => by cases z), fun _ => ⟨true, HR.mm, fun _ a _ => suite_end hσ hd k, (fun z => by cases z)⟩⟩⟩
theorem nd_ix {ss : List Str} {s : Str} {i j : Nat} (nd : ss.Nodup) (h1 : ss[i]? = some s) (h2 : ss[j]? = some s) : i = j := by
  obtain ⟨l1, e1⟩ := List.getElem?_eq_some_iff.mp h1
  obtain ⟨l2, e2⟩ := List.getElem?_eq_some_iff.mp h2
  rcases Nat.lt_trichotomy i j with l | l | l
  · exact absurd (e1.trans e2.symm) (List.pairwise_iff_getElem.mp nd i j l1 l2 l)
  · exact l
  · exact absurd (e2.trans e1.symm) (List.pairwise_iff_getElem.mp nd j i l2 l1 l)
theorem scPMove : FnScope NPMove ["_law_rival", "_law_move"] (defScope sPMove) := ⟨rfl, rfl, rfl, by decide +kernel, rfl, by decide +kernel, by decide +kernel⟩
theorem ok_pmove {f fC fE fP fD fL : Addr} {fd dC dE dP dD dL : FuncData} (F : Fun K "_law_p_move" "_law_p_move" sPMove f fd) (T : Txt K mg) (R : TxR K C) (X : ErrsR K P mg CN CT CM) (HR : HandR K CN CT CM)
    (FC : FunC K fC dC) (bC : Binds K dC ["self", "name", "to"] []) (mC : Meth K C "call" fC) (FE : Fun K "exchange" "Rival.exchange" sExch fE dE) (bE : Binds K dE ["self", "at"] []) (mE : Meth K C "exchange" fE)
    (FP : Fun K "put" "Rival.put" sPut fP dP) (bP : Binds K dP ["self", "name", "at"] []) (mP : Meth K C "put" fP) (FD : Fun K "drop" "Rival.drop" sDrop fD dD) (bD : Binds K dD ["self", "name"] []) (mD : Meth K C "drop" fD)
    (FL : Fun K "_place" "Rival._place" sPlace fL dL) (bL : Binds K dL ["self", "name"] []) (mL : Meth K C "_place" fL) : FnOk P w K mg base CX0 5 f fd ["_law_rival", "_law_move"] (spPMove C) := by
  have GC : FnOk P w K mg base (L2.CX P w) 4 fC dC ["self", "name", "to"] (spCallX C CN CM) := ok_callX FC T R X FL bL mL
  have GE : FnOk P w K mg base (L2.CX P w) 3 fE dE ["self", "at"] (spExchX C CM) := ok_exchX FE T R X
  have GP : FnOk P w K mg base (L2.CX P w) 3 fP dP ["self", "name", "at"] (spPutX C CT CM) := ok_putX FP T R X
  have GD : FnOk P w K mg base (L2.CX P w) 4 fD dD ["self", "name"] (spDropX C CN) := ok_dropX FD T R X FL bL mL
  obtain ⟨cN, fN, dN, EN, FN, SN, hnoN⟩ := X.no
  obtain ⟨cT, fT, dT, ET, FT, ST, hnoT⟩ := X.there
  obtain ⟨cM, fM, dM, EM, FM, SM, hnoM⟩ := X.move
  refine F.ok scPMove (fun vs H Q E h => ?_) (fun cdv A outer s H vs Q E hr h => ?_)
  · obtain ⟨p, t, _, _, _, _, _, _, _, rfl, _⟩ := h
    rfl
  · have hr3 : Room 3 _ := hr.mono (by decide)
    refine ⟨_, pss_one (ps_try_all rfl rfl scPMove.nd
      (fun W pn xe tk _ => pss_cons (ps_if (pt_cmpR op_eq (pe_ix (ix_tupK (K := K) rfl) (pv 1) pe_int (fun _ _ => rfl)) pe_str (nomark _)) (pss_one (ps_expr (pe_meth (E := fun cls d H => ∀ σ : L2.St, σ.length = 3 → W cls d σ H) (pv 0) R.cl mC GC hr bC .nil (passes_len tk rfl) (pa_cons (pe_ix (ix_tupK (K := K) rfl) (pv 1) pe_int (fun _ _ => rfl)) (pa_cons (pe_ix (ix_tupK (K := K) rfl) (pv 1) pe_int (fun _ _ => rfl)) pa_nil))))) (pss_one (ps_if (pt_cmpR op_eq (pe_ix (ix_tupK (K := K) rfl) (pv 1) pe_int (fun _ _ => rfl)) pe_str (nomark _)) (pss_one (ps_expr (pe_meth (E := fun cls d H => ∀ σ : L2.St, σ.length = 3 → W cls d σ H) (pv 0) R.cl mE GE hr3 bE .nil (passes_len tk rfl) (pa_cons (pe_ix (ix_tupK (K := K) rfl) (pv 1) pe_int (fun _ _ => rfl)) pa_nil)))) (pss_one (ps_if (pt_cmpR op_eq (pe_ix (ix_tupK (K := K) rfl) (pv 1) pe_int (fun _ _ => rfl)) pe_str (nomark _)) (pss_one (ps_expr (pe_meth (E := fun cls d H => ∀ σ : L2.St, σ.length = 3 → W cls d σ H) (pv 0) R.cl mP GP hr3 bP .nil (passes_len tk rfl) (pa_cons (pe_ix (ix_tupK (K := K) rfl) (pv 1) pe_int (fun _ _ => rfl)) (pa_cons (pe_ix (ix_tupK (K := K) rfl) (pv 1) pe_int (fun _ _ => rfl)) pa_nil))))) (pss_one (ps_expr (pe_meth (E := fun cls d H => ∀ σ : L2.St, σ.length = 3 → W cls d σ H) (pv 0) R.cl mD GD hr bD .nil (passes_len tk rfl) (pa_cons (pe_ix (ix_tupK (K := K) rfl) (pv 1) pe_int (fun _ _ => rfl)) pa_nil))))))))) (pss_one (ps_ret (pe_lst (pa_cons pe_str pa_nil)))))
      (.cons (i := 2) (c := .ref CN) rfl rfl ⟨by rfl, by decide, .inl EN.g⟩ (fun a oe cls d pn hz hf => pss_one (ps_ret (pe_lst (pa_cons pe_str (pa_cons (pe_xf HR.xN hnoN hz hf (pv 2)) pa_nil))))) (.cons (i := 2) (c := .ref CT) rfl rfl ⟨by rfl, by decide, .inl ET.g⟩ (fun a oe cls d pn hz hf => pss_one (ps_ret (pe_lst (pa_cons pe_str (pa_cons (pe_xf HR.xT hnoT hz hf (pv 2)) pa_nil))))) (.cons (i := 2) (c := .ref CM) rfl rfl ⟨by rfl, by decide, .inl EM.g⟩ (fun a oe cls d pn hz hf => pss_one (ps_ret (pe_lst (pa_cons pe_str (pa_cons (pe_xf HR.xM hnoM hz hf (pv 2)) pa_nil))))) .nil)))), ?_⟩
    obtain ⟨p, t, dx, N, ss, c, mv, x, v, rfl, hv, ht, bad, kk⟩ := h
    obtain ⟨hp, hN, nd, l60⟩ := id hv
    have no : ∀ {m : Str}, ¬ m = "cost" → ¬ m = "names" → (fR N c).lookup m = none := fun h1 h2 => fR_no _ _ h1 h2
    have mem : ∀ {s : Str} {j : Nat}, ss[j]? = some s → s ∈ ss := fun h => List.mem_of_getElem? h
    have x1 : ∀ {m : Str} (hm : ¬ V.str m = V.str "call"), decide (V.str m = V.str "call") = false := fun h => decide_eq_false h
    cases bad with
    | @callNo s a h hl =>
      refine ⟨_, rfl, t, _, 0, _, rfl, rfl, SqT.of ht, rfl, rfl, _, rfl, iteYes (decide_eq_true rfl) ?_⟩
      refine ⟨_, rfl, p, dx, _, rfl, hp, no (by decide +kernel) (by decide +kernel), _, rfl, t, _, 1, _, rfl, rfl, SqT.of ht, rfl, _, rfl, t, _, 2, _, rfl, rfl, SqT.of ht, rfl, p, dx, N, ss, c, s, optV a, rfl, hv, hl, ?_, fun _ d hd σ hσ => endN HR hσ hd kk, fun j hj => absurd (mem hj) h⟩
      cases a with
      | none => exact .inl rfl
      | some a => exact .inr ⟨a, rfl⟩
    | @callOut s j a h nd' hl hb =>
      refine ⟨_, rfl, t, _, 0, _, rfl, rfl, SqT.of ht, rfl, rfl, _, rfl, iteYes (decide_eq_true rfl) ?_⟩
      refine ⟨_, rfl, p, dx, _, rfl, hp, no (by decide +kernel) (by decide +kernel), _, rfl, t, _, 1, _, rfl, rfl, SqT.of ht, rfl, _, rfl, t, _, 2, _, rfl, rfl, SqT.of ht, rfl, p, dx, N, ss, c, s, .int a, rfl, hv, hl, .inr ⟨a, rfl⟩, fun z => absurd (mem h) z, fun j' hj => ?_⟩
      obtain rfl := nd_ix nd hj h
      exact ⟨a, rfl, .inr ⟨hb, fun d hd σ hσ => endM HR hσ hd kk⟩⟩
    | @exch a hb =>
      refine ⟨_, rfl, t, _, 0, _, rfl, rfl, SqT.of ht, rfl, rfl, _, rfl, iteNo (by decide +kernel) ?_⟩
      refine ⟨_, rfl, t, _, 0, _, rfl, rfl, SqT.of ht, rfl, rfl, _, rfl, iteYes (decide_eq_true rfl) ?_⟩
      exact ⟨_, rfl, p, dx, _, rfl, hp, no (by decide +kernel) (by decide +kernel), _, rfl, t, _, 1, _, rfl, rfl, SqT.of ht, rfl, p, dx, N, ss, c, a, rfl, hv, hb, fun d hd σ hσ => endM HR hσ hd kk⟩
    | @putThere s a h hl =>
      refine ⟨_, rfl, t, _, 0, _, rfl, rfl, SqT.of ht, rfl, rfl, _, rfl, iteNo (by decide +kernel) ?_⟩
      refine ⟨_, rfl, t, _, 0, _, rfl, rfl, SqT.of ht, rfl, rfl, _, rfl, iteNo (by decide +kernel) ?_⟩
      refine ⟨_, rfl, t, _, 0, _, rfl, rfl, SqT.of ht, rfl, rfl, _, rfl, iteYes (decide_eq_true rfl) ?_⟩
      exact ⟨_, rfl, p, dx, _, rfl, hp, no (by decide +kernel) (by decide +kernel), _, rfl, t, _, 1, _, rfl, rfl, SqT.of ht, rfl, _, rfl, t, _, 2, _, rfl, rfl, SqT.of ht, rfl, p, dx, N, ss, c, s, a, rfl, hv, hl, .inl h, fun _ d hd σ hσ => endT HR hσ hd kk, fun z => absurd h z⟩
    | @putOut s a h hl hb =>
      refine ⟨_, rfl, t, _, 0, _, rfl, rfl, SqT.of ht, rfl, rfl, _, rfl, iteNo (by decide +kernel) ?_⟩
      refine ⟨_, rfl, t, _, 0, _, rfl, rfl, SqT.of ht, rfl, rfl, _, rfl, iteNo (by decide +kernel) ?_⟩
      refine ⟨_, rfl, t, _, 0, _, rfl, rfl, SqT.of ht, rfl, rfl, _, rfl, iteYes (decide_eq_true rfl) ?_⟩
      exact ⟨_, rfl, p, dx, _, rfl, hp, no (by decide +kernel) (by decide +kernel), _, rfl, t, _, 1, _, rfl, rfl, SqT.of ht, rfl, _, rfl, t, _, 2, _, rfl, rfl, SqT.of ht, rfl, p, dx, N, ss, c, s, a, rfl, hv, hl, .inr hb, fun z => absurd z h, fun _ d hd σ hσ => endM HR hσ hd kk⟩
    | @dropNo s h hl =>
      refine ⟨_, rfl, t, _, 0, _, rfl, rfl, SqT.of ht, rfl, rfl, _, rfl, iteNo (by decide +kernel) ?_⟩
      refine ⟨_, rfl, t, _, 0, _, rfl, rfl, SqT.of ht, rfl, rfl, _, rfl, iteNo (by decide +kernel) ?_⟩
      refine ⟨_, rfl, t, _, 0, _, rfl, rfl, SqT.of ht, rfl, rfl, _, rfl, iteNo (by decide +kernel) ?_⟩
      exact ⟨_, rfl, p, dx, _, rfl, hp, no (by decide +kernel) (by decide +kernel), _, rfl, t, _, 1, _, rfl, rfl, SqT.of ht, rfl, p, dx, N, ss, c, s, rfl, hv, hl, fun j hj => absurd (mem hj) h, fun _ d hd σ hσ => endN HR hσ hd kk⟩
end
end PA

set_option maxHeartbeats 1000000
namespace PA
open PySem L2 RZ
section
variable {α : Type} {ss : List α} {s t : α} {j : Nat}
theorem split_at (h : ss[j]? = some s) : ss = ss.take j ++ s :: ss.drop (j + 1) := by
  obtain ⟨hl, e⟩ := List.getElem?_eq_some_iff.mp h
  have := List.take_append_drop j ss
  rw [List.drop_eq_getElem_cons hl, e] at this
  exact this.symm
theorem erase_at : ss.eraseIdx j = ss.take j ++ ss.drop (j + 1) := List.eraseIdx_eq_take_drop_succ ..
theorem perm_erase (h : ss[j]? = some s) : (s :: ss.eraseIdx j).Perm ss := by
  have e := split_at h
  rw [erase_at]
  have p := (List.perm_middle (l₁ := ss.take j) (l₂ := ss.drop (j + 1)) (a := s)).symm
  rw [← e] at p
  exact p
theorem nodup_erase (nd : ss.Nodup) : (ss.eraseIdx j).Nodup := List.Nodup.sublist (List.eraseIdx_sublist ..) nd
theorem put_nodup (nd : ss.Nodup) (h : s ∉ ss) : (ss.take j ++ [s] ++ ss.drop j).Nodup := by
  rw [List.append_assoc, List.singleton_append]
  refine (List.perm_middle (a := s)).nodup_iff.mpr ?_
  rw [List.take_append_drop]
  exact List.nodup_cons.mpr ⟨h, nd⟩
theorem move_nodup (nd : ss.Nodup) (h : ss[j]? = some s) (i : Nat) : ((ss.eraseIdx j).take i ++ [s] ++ (ss.eraseIdx j).drop i).Nodup := by
  rw [List.append_assoc, List.singleton_append]
  refine (List.perm_middle (a := s)).nodup_iff.mpr ?_
  rw [List.take_append_drop]
  exact (perm_erase h).nodup_iff.mpr nd
theorem filt [DecidableEq α] (nd : ss.Nodup) (h : ss[j]? = some s) : (ss.filter fun x => !decide (x = s)) = ss.eraseIdx j := by
  have p := (perm_erase h).nodup_iff.mpr nd
  have hn := (List.nodup_cons.mp p).1
  have e := split_at h
  rw [erase_at] at hn ⊢
  have hn1 : ∀ x ∈ ss.take j, (!decide (x = s)) = true := fun x hx => by
    rw [Bool.not_eq_true', decide_eq_false_iff_not]
    rintro rfl
    exact hn (List.mem_append_left _ hx)
  have hn2 : ∀ x ∈ ss.drop (j + 1), (!decide (x = s)) = true := fun x hx => by
    rw [Bool.not_eq_true', decide_eq_false_iff_not]
    rintro rfl
    exact hn (List.mem_append_right _ hx)
  have key : (ss.take j ++ s :: ss.drop (j + 1)).filter (fun x => !decide (x = s)) = ss.take j ++ ss.drop (j + 1) := by
    rw [List.filter_append, List.filter_eq_self.mpr hn1, List.filter_cons_of_neg (by simp), List.filter_eq_self.mpr hn2]
  rw [← e] at key
  exact key
theorem exch_split (hs : ss[j]? = some s) (ht : ss[j + 1]? = some t) : ss = ss.take j ++ s :: t :: ss.drop (j + 2) := by
  have e := split_at hs
  obtain ⟨hl, e2⟩ := List.getElem?_eq_some_iff.mp ht
  rw [List.drop_eq_getElem_cons hl, e2] at e
  exact e
theorem exch_eq : ∀ (ss : List α) (j : Nat), ss[j]? = some s → ss[j + 1]? = some t → (ss.set j t).set (j + 1) s = ss.take j ++ [t, s] ++ ss.drop (j + 2)
  | [], j, h, _ => by simp at h
  | [_], j, _, h => by simp at h
  | a :: b :: r, 0, h, h2 => by
    simp
  | a :: b :: r, j + 1, h, h2 => by
    have ih := exch_eq (b :: r) j (by simpa using h) (by simpa using h2)
    show a :: ((b :: r).set j t).set (j + 1) s = _
    rw [ih]
    simp
theorem exch_nodup (nd : ss.Nodup) (hs : ss[j]? = some s) (ht : ss[j + 1]? = some t) : (ss.take j ++ [t, s] ++ ss.drop (j + 2)).Nodup := by
  have e := exch_split hs ht
  have p : (ss.take j ++ t :: s :: ss.drop (j + 2)).Perm (ss.take j ++ s :: t :: ss.drop (j + 2)) := List.Perm.append_left _ (List.Perm.swap ..)
  rw [← e] at p
  rw [List.append_assoc]
  exact p.nodup_iff.mpr nd
theorem move_eq (h : ss[j]? = some s) {i : Nat} (hi : i ≤ j) : (ss.eraseIdx j).take i ++ [s] ++ (ss.eraseIdx j).drop i = ss.take i ++ [s] ++ ((ss.drop i).take (j - i)) ++ ss.drop (j + 1) := by
  have hl := (List.getElem?_eq_some_iff.mp h).1
  have h1 : (ss.take j).length = j := by rw [List.length_take]; omega
  rw [erase_at]
  rw [List.take_append_of_le_length (by rw [h1]; exact hi), List.drop_append_of_le_length (by rw [h1]; exact hi), List.take_take, Nat.min_eq_left hi, List.drop_take]
  simp only [List.append_assoc]
end
theorem cut_pre (xs : List V) (k : Nat) : cutV xs none (some ((k : Nat) : Int)) = xs.take k := by
  unfold cutV
  rw [HT.sIx_none, HT.sIx_nat, List.drop_zero, Nat.sub_zero]
  rcases Nat.le_total k xs.length with h | h
  · rw [Nat.min_eq_left h]
  · rw [Nat.min_eq_right h, List.take_length, List.take_of_length_le h]
theorem cut_suf (xs : List V) (k : Nat) : cutV xs (some ((k : Nat) : Int)) none = xs.drop k := by
  unfold cutV
  rw [HT.sIx_none, HT.sIx_nat]
  rcases Nat.le_total k xs.length with h | h
  · rw [Nat.min_eq_left h, List.take_of_length_le (by rw [List.length_drop]; exact Nat.le_refl _)]
  · rw [Nat.min_eq_right h, Nat.sub_self, List.take_zero, List.drop_of_length_le h]
theorem cut_mid (xs : List V) (i k : Nat) (h1 : i ≤ xs.length) (h2 : k ≤ xs.length) : cutV xs (some ((i : Nat) : Int)) (some ((k : Nat) : Int)) = (xs.drop i).take (k - i) := by
  unfold cutV
  rw [HT.sIx_nat, HT.sIx_nat, Nat.min_eq_left h1, Nat.min_eq_left h2]
/-! ### the names -/
def some14 : List Str := ["int", "str", "list", "a", "A", "b b", "~", " ", "0", "10", "9", "a case of twenty ab", "aa", "ab"]
theorem some14_nodup : some14.Nodup := by unfold some14; decide +kernel
theorem some14_ok : ∀ s ∈ some14, PyData.strOk s = true := by unfold some14; decide +kernel
theorem some14_len : ∀ s ∈ some14, s.length ≤ 100 := by unfold some14; decide +kernel
theorem tx_perm {ys : List V} {ss : List Str} (h : ys.Perm (tx ss)) : ∃ ms, ys = tx ms ∧ ms.Perm ss := by
  have fm : ∀ v ∈ ys, ∃ z : Str, v = V.str z := fun v hv => by
    obtain ⟨z, _, rfl⟩ := List.mem_map.mp (h.mem_iff.mp hv)
    exact ⟨z, rfl⟩
  let g : V → Str := fun v => match v with | .str z => z | _ => Str.empty
  refine ⟨ys.map g, ?_, ?_⟩
  · unfold tx
    rw [List.map_map]
    refine (List.map_id ys).symm.trans (List.map_congr_left fun v hv => ?_)
    obtain ⟨z, rfl⟩ := fm v hv
    rfl
  · have := h.map g
    have e : (tx ss).map g = ss := by
      unfold tx
      rw [List.map_map]
      exact (List.map_congr_left fun v hv => rfl).trans (List.map_id ss)
    rw [e] at this
    exact this
def spNames : Sp := fun vs H Q _ => ∃ (a l : Addr) (n many : Nat), vs = [.ref a, .int (many : Nat)] ∧ StreamAt H a l n ∧ n ≤ 10000 ∧ many ≤ 14 ∧
  ∀ (t : Addr) (ss : List Str) (H' : Hp), H' t = some (.lst (tx ss)) → ss.length = many → ss.Nodup → (∀ s ∈ ss, PyData.strOk s = true ∧ s.length ≤ 100) → t ≠ a → t ≠ l → H t = none → StreamAt H' a l (n + 14) → Keep a l H H' → Q (.ref t) H'
section
variable {P : Program} {w : World} {K : PySem.W.Frag} {mg : Str → Option Value} {base : Heap} {C : Addr}
theorem scNames : FnScope ["_law_stream", "_law_many", "_law_some"] ["_law_stream", "_law_many"] (defScope sNames) := ⟨rfl, rfl, rfl, by decide +kernel, rfl, by decide +kernel, by decide +kernel⟩
theorem ok_names {f g1 g3 : Addr} {fd gd1 gd3 : FuncData} (F : Fun K "_law_p_names" "_law_p_names" sNames f fd) (T : Txt K mg) (D1 : Df K mg "_law_draw" sDraw g1 gd1 ["_law_stream", "_law_many"]) (D3 : Df K mg "_law_mixed" sMixed g3 gd3 ["_law_stream", "_law_some"]) : FnOk P w K mg base CX0 3 f fd ["_law_stream", "_law_many"] spNames := by
  have G3 : FnOk P w K mg base CX0 2 g3 gd3 ["_law_stream", "_law_some"] spMixed := ok_mixed D3.F T D1
  refine F.ok scNames (fun vs H Q E h => ?_) (fun cdv A outer s H vs Q E hr h => ?_)
  · obtain ⟨a, l, n, _, rfl, _⟩ := h
    rfl
  · obtain ⟨a, l, n, many, rfl, S0, hn, hm, kk⟩ := h
    refine ⟨_, pss_cons (ps_set (i := 2) scNames.nd rfl (Or.inl rfl) (pe_lst (pa_cons pe_str (pa_cons pe_str (pa_cons pe_str (pa_cons pe_str (pa_cons pe_str (pa_cons pe_str (pa_cons pe_str (pa_cons pe_str (pa_cons pe_str (pa_cons pe_str (pa_cons pe_str (pa_cons pe_str (pa_cons pe_str (pa_cons pe_str pa_nil))))))))))))))))
      (pss_one (ps_ret (pe_slice sl_list (pe_call G3 hr rfl D3.M D3.F.kp D3.B .nil pass0 (pa_cons (pv 0) (pa_cons (pv 2) pa_nil))) po_none (po_some (pv 1))))), ?_⟩
    refine ⟨by show 14 ≤ sizeLine; decide, fun L hL => ?_⟩
    have eL := new_ (o := .lst (tx some14)) hL
    have gL : (upd H L (.lst (tx some14))) L = some (.lst (tx some14)) := upd_same
    refine ⟨_, rfl, _, rfl, a, l, L, n, tx some14, rfl, S0.same eL, by omega, gL, by show 14 ≤ 48; decide, fun t ys H1 ht hp ta tl tn S1 k1 => ?_⟩
    obtain ⟨ms, rfl, pm⟩ := tx_perm hp
    refine ⟨_, rfl, _, rfl, t, _, rfl, SqL.of ht, fun q hq => ?_⟩
    rw [cut_pre]
    have eq_ := new_ (o := .lst ((tx ms).take many)) hq
    obtain ⟨qa, ql⟩ := S1.ne hq
    have hml : ms.length = 14 := by rw [pm.length_eq]; rfl
    have et : (tx ms).take many = tx (ms.take many) := by rw [tx, tx, List.map_take]
    refine kk q (ms.take many) _ (by rw [et]; exact upd_same) (by rw [List.length_take]; omega) ((pm.nodup_iff.mpr some14_nodup).sublist (List.take_sublist ..)) (fun s hs => ⟨some14_ok s (pm.mem_iff.mp (List.mem_of_mem_take hs)), some14_len s (pm.mem_iff.mp (List.mem_of_mem_take hs))⟩) qa ql ?_ (S1.same eq_) (((Keep.of eL).trans k1).trans (Keep.of eq_))
    exact keep_none ((Keep.of eL).trans k1) qa ql hq
end
end PA

set_option maxHeartbeats 8000000
namespace PA
open PySem L2 RZ
open C8 (pss_cut tCut)
abbrev NLw : List Str := ["_law_script", "_law_stream", "_law_pool", "_law_rival", "_law_size", "_law_name", "_law_turn", "_law_names", "_law_to", "_law_cost", "_law_one", "_law_other", "_law_far", "_law_place", "_law_bad", "_law_move", "_law_due"]
structure Prog (K : PySem.W.Frag) (P : Program) (mg : Str → Option Value) (C CN CT CM fI fOr pOr fCa fEx fPu fDr fPl fDraw fStart fPick fMixed fSame fNames fPm : Addr) (dI dOr dCa dEx dPu dDr dPl dDraw dStart dPick dMixed dSame dNames dPm : FuncData) : Prop where
  T : Txt K mg
  R : TxR K C
  mgC : mg "Rival" = some (.ref C)
  X : ErrsR K P mg CN CT CM
  HR : HandR K CN CT CM
  FI : Fun K "__init__" "Rival.__init__" sInit fI dI
  bI : Binds K dI ["self", "names"] []
  M : Mk K C fI
  FO : Fun K "order" "Rival.order" sOrder fOr dOr
  bO : Binds K dOr ["self"] []
  pO : PropOf K C "order" pOr fOr
  FC : FunC K fCa dCa
  bC2 : Binds K dCa ["self", "name", "to"] []
  mC : Meth K C "call" fCa
  FE : Fun K "exchange" "Rival.exchange" sExch fEx dEx
  bE : Binds K dEx ["self", "at"] []
  mE : Meth K C "exchange" fEx
  FP : Fun K "put" "Rival.put" sPut fPu dPu
  bP : Binds K dPu ["self", "name", "at"] []
  mP : Meth K C "put" fPu
  FD : Fun K "drop" "Rival.drop" sDrop fDr dDr
  bD : Binds K dDr ["self", "name"] []
  mD : Meth K C "drop" fDr
  FL : Fun K "_place" "Rival._place" sPlace fPl dPl
  bL : Binds K dPl ["self", "name"] []
  mL : Meth K C "_place" fPl
  draw : Df K mg "_law_draw" sDraw fDraw dDraw ["_law_stream", "_law_many"]
  start : Df K mg "_law_start" sStart fStart dStart ["_law_script"]
  pick : Df K mg "_law_pick" sPick fPick dPick ["_law_stream", "_law_some"]
  mixed : Df K mg "_law_mixed" sMixed fMixed dMixed ["_law_stream", "_law_some"]
  same : Df K mg "_law_same" sSame fSame dSame ["_law_found", "_law_due"]
  names : Df K mg "_law_p_names" sNames fNames dNames ["_law_stream", "_law_many"]
  pmv : Df K mg "_law_p_move" sPMove fPm dPm ["_law_rival", "_law_move"]
def spLaw (K : PySem.W.Frag) : Sp := fun vs H Q _ => ∃ (a : Addr) (ns : List Int), vs = [.ref a] ∧ SqL K H a (ns.map V.int) ∧ ns.length ≤ 63 ∧ ∀ H', Q (.bl true) H'
/-- how the law stands -/
structure LR (C : Addr) (H : Hp) (sa sl PL p dx N : Addr) (pool ss : List Str) (c : Int) (n : Nat) : Prop where
  st : StreamAt H sa sl n
  hP : H PL = some (.lst (tx pool))
  rv : RivAt C H p dx N ss c
  aP : PL ≠ sa ∧ PL ≠ sl
  aN : N ≠ sa ∧ N ≠ sl
  NP : N ≠ PL
theorem mk_riv {K : PySem.W.Frag} {C : Addr} {H : Hp} {Q : VK} {E : XK} {G : Addr} {ss : List Str} (hG : Sq K H G (tx ss)) (nd : ss.Nodup) (l : ss.length ≤ 60) {x dx : Addr} (nx : H x = none) (ndx : H dx = none) (nex : dx ≠ x)
    (kk : ∀ N H', Same H H' → RivAt C H' x dx N ss 0 → H N = none → Q .non H') : spInitR K C [V.ref x, V.ref G] (upd (upd H dx (.own x)) x (.ins C dx [])) Q E := by
  have s1 : Same H (upd (upd H dx (.own x)) x (.ins C dx [])) := fun c o e => by
    rw [upd_ne (ne_of_none e nx), upd_ne (ne_of_none e ndx)]
    exact e
  exact ⟨x, dx, G, ss, rfl, upd_same, hG.up s1, nd, l, fun N H' rv kp hN => kk N H' (fun c o e => kp c o (s1 _ _ e) (ne_of_none e nx)) rv (L2.Same.none s1 hN)⟩
theorem LR.same {C : Addr} {H H' : Hp} {sa sl PL p dx N : Addr} {pool ss : List Str} {c : Int} {n : Nat} (l : LR C H sa sl PL p dx N pool ss c n) (s : Same H H') : LR C H' sa sl PL p dx N pool ss c n := by
  obtain ⟨h1, h2, h3, h4⟩ := l.rv
  exact ⟨l.st.same s, s _ _ l.hP, ⟨s _ _ h1, s _ _ h2, h3, h4⟩, l.aP, l.aN, l.NP⟩
theorem LR.kept {C : Addr} {H H' : Hp} {sa sl PL p dx N : Addr} {pool ss : List Str} {c : Int} {n m : Nat} (l : LR C H sa sl PL p dx N pool ss c n) (S : StreamAt H' sa sl m) (k : Keep sa sl H H') : LR C H' sa sl PL p dx N pool ss c m := by
  obtain ⟨h1, h2, h3, h4⟩ := l.rv
  obtain ⟨ne, ns', xx, z, g1, g2, _⟩ := l.st
  exact ⟨S, k _ _ l.aP.1 l.aP.2 l.hP, ⟨k _ _ (ne_of h1 g1 (by intro z; cases z)) (ne_of h1 g2 (by intro z; cases z)) h1, k _ _ l.aN.1 l.aN.2 h2, h3, h4⟩, l.aP, l.aN, l.NP⟩
/-- the list of names is another -/
theorem LR.list {C : Addr} {H : Hp} {sa sl PL p dx N : Addr} {pool ss ss' : List Str} {c : Int} {n : Nat} (l : LR C H sa sl PL p dx N pool ss c n) (nd : ss'.Nodup) (hl : ss'.length ≤ 60) : LR C (upd H N (.lst (tx ss'))) sa sl PL p dx N pool ss' c n := by
  obtain ⟨h1, h2, h3, h4⟩ := l.rv
  exact ⟨l.st.lst h2 l.aN.1 l.aN.2, by rw [upd_ne l.NP.symm]; exact l.hP, ⟨by rw [upd_ne (ne_of h1 h2 (by intro z; cases z))]; exact h1, upd_same, nd, hl⟩, l.aP, l.aN, l.NP⟩
theorem LR.call {C : Addr} {H : Hp} {sa sl PL p dx N : Addr} {pool ss ss' : List Str} {c c' : Int} {n : Nat} (l : LR C H sa sl PL p dx N pool ss c n) (nd : ss'.Nodup) (hl : ss'.length ≤ 60) : LR C (upd (upd H N (.lst (tx ss'))) p (.ins C dx (fR N c'))) sa sl PL p dx N pool ss' c' n := by
  have l' := l.list nd hl
  obtain ⟨h1, h2, h3, h4⟩ := l'.rv
  obtain ⟨ne, ns, x, z, g1, g2, g3⟩ := l'.st
  refine ⟨⟨ne, ns, x, z, ?_, ?_, g3⟩, ?_, ⟨upd_same, ?_, nd, hl⟩, l.aP, l.aN, l.NP⟩
  · rw [upd_ne (ne_of g1 h1 (by intro z; cases z))]; exact g1
  · rw [upd_ne (ne_of g2 h1 (by intro z; cases z))]; exact g2
  · rw [upd_ne (ne_of l'.hP h1 (by intro z; cases z))]; exact l'.hP
  · rw [upd_ne (ne_of h2 h1 (by intro z; cases z))]; exact h2
def OkN (o : Str) (ss : List Str) : Prop := 1 ≤ ss.length ∧ ss.length ≤ 5 ∧ (∀ s ∈ ss, s.length ≤ 100) ∧ o ∉ ss
theorem OkN.perm {o : Str} {ss ss' : List Str} (h : OkN o ss) (p : ss'.Perm ss) : OkN o ss' := ⟨by rw [p.length_eq]; exact h.1, by rw [p.length_eq]; exact h.2.1, fun s hs => h.2.2.1 s (p.mem_iff.mp hs), fun hs => h.2.2.2 (p.mem_iff.mp hs)⟩
/-- a list of names is not the stream -/
theorem StreamAt.neS {H : Hp} {a l q : Addr} {n : Nat} {ss : List Str} (S : StreamAt H a l n) (g : H q = some (.lst (tx ss))) (h : ss.length ≠ 0) : q ≠ a ∧ q ≠ l := by
  obtain ⟨ne, ns, x, z, g1, g2, _⟩ := S
  cases ss with
  | nil => exact absurd rfl h
  | cons s r =>
    constructor
    · rintro rfl
      rw [g] at g1
      injection g1 with e
      injection e with e
      injection e with e _
      cases e
    · rintro rfl
      rw [g] at g2
      injection g2 with e
      injection e with e
      cases ns with
      | nil => cases e
      | cons y ys =>
        injection e with e _
        cases e
/-- an entry of the list of bad moves: the move and what is due -/
def Ent (H : Hp) (ss : List Str) (e : V) : Prop := ∃ (P T D : Addr) (mv : Mv) (x : Str) (v : V), e = .ref P ∧ H P = some (.tup [.ref T, .ref D]) ∧ H T = some (.tup (mvL mv)) ∧ H D = some (.lst [.str x, v]) ∧ BadMv ss mv x v
theorem Ent.same {H H' : Hp} {ss : List Str} {e : V} (h : Ent H ss e) (s : Same H H') : Ent H' ss e := by
  obtain ⟨P, T, D, mv, x, v, h1, h2, h3, h4, h5⟩ := h
  exact ⟨P, T, D, mv, x, v, h1, s _ _ h2, s _ _ h3, s _ _ h4, h5⟩
theorem Ent.kept {H H' : Hp} {ss : List Str} {e : V} {a l : Addr} {n : Nat} (h : Ent H ss e) (S : StreamAt H a l n) (k : Keep a l H H') : Ent H' ss e := by
  obtain ⟨P, T, D, mv, x, v, h1, h2, h3, h4, h5⟩ := h
  obtain ⟨ne, ns, y, z, g1, g2, _⟩ := S
  refine ⟨P, T, D, mv, x, v, h1, k _ _ (ne_of h2 g1 (by intro z; cases z)) (ne_of h2 g2 (by intro z; cases z)) h2, k _ _ (ne_of h3 g1 (by intro z; cases z)) (ne_of h3 g2 (by intro z; cases z)) h3, k _ _ (ne_of h4 g1 (by intro z; cases z)) (ne_of h4 g2 ?_) h4, h5⟩
  intro e
  injection e with e
  cases ns with
  | nil => cases e
  | cons y ys =>
    injection e with e _
    cases e
theorem ent_mk {H : Hp} {ss : List Str} {mv : Mv} {x : Str} {v : V} {T D P : Addr} (hT : H T = none) (hD : (upd H T (.tup (mvL mv))) D = none) (hP : (upd (upd H T (.tup (mvL mv))) D (.lst [.str x, v])) P = none) (b : BadMv ss mv x v) :
    Same H (upd (upd (upd H T (.tup (mvL mv))) D (.lst [.str x, v])) P (.tup [.ref T, .ref D])) ∧ Ent (upd (upd (upd H T (.tup (mvL mv))) D (.lst [.str x, v])) P (.tup [.ref T, .ref D])) ss (.ref P) := by
  have s1 := new_ (o := .tup (mvL mv)) hT
  have s2 := new_ (o := .lst [.str x, v]) hD
  have s3 := new_ (o := .tup [.ref T, .ref D]) hP
  exact ⟨fun b u e => s3 _ _ (s2 _ _ (s1 _ _ e)), P, T, D, mv, x, v, rfl, upd_same, s3 _ _ (s2 _ _ upd_same), s3 _ _ upd_same, b⟩
theorem one_all {H : Hp} {ss : List Str} {a : V} (h : Ent H ss a) : ∀ e ∈ [a], Ent H ss e := fun e he => by
  rw [List.mem_singleton] at he
  rw [he]; exact h
theorem two_all {H : Hp} {ss : List Str} {a b : V} (h : Ent H ss a) (h' : Ent H ss b) : ∀ e ∈ [a, b], Ent H ss e := fun e he => by
  rcases List.mem_cons.mp he with rfl | he
  · exact h
  · exact one_all h' e he
theorem cat_all {H H' : Hp} {ss : List Str} {xs ys : List V} (s : Same H H') (h : ∀ e ∈ xs, Ent H ss e) (h' : ∀ e ∈ ys, Ent H ss e) : ∀ e ∈ xs ++ ys, Ent H' ss e := fun e he => by
  rcases List.mem_append.mp he with he | he
  · exact (h e he).same s
  · exact (h' e he).same s
theorem Two.strs {K : PySem.W.Frag} {H : Hp} {n : Nat} {a b : Addr} {ss : List Str} (ha : H a = some (.lst (tx ss))) (hb : H b = some (.lst (tx ss))) (h : ss.length ≤ 60) : Two K H (n + 1) (.ref a) (.ref b) := by
  refine .lst ha hb rfl (by rw [List.length_map]; exact Nat.le_trans h (by decide)) fun i x y h1 h2 => ?_
  rw [h1] at h2
  cases h2
  rw [List.getElem?_map, Option.map_eq_some_iff] at h1
  obtain ⟨z, _, rfl⟩ := h1
  exact .str _ _
theorem BadMv.v {ss : List Str} {mv : Mv} {x : Str} {v : V} (b : BadMv ss mv x v) {K : PySem.W.Frag} {H : Hp} {n : Nat} : Two K H n v v := by
  cases b <;> first | exact .str _ _ | exact .int _ _
theorem BadMv.two {K : PySem.W.Frag} {H : Hp} {ss : List Str} {mv : Mv} {x : Str} {v : V} {R D : Addr} (b : BadMv ss mv x v) (hR : H R = some (.lst [.str x, v])) (hD : H D = some (.lst [.str x, v])) : Two K H 1 (.ref R) (.ref D) := by
  refine .lst hR hD rfl (by show 2 ≤ sizeLine; decide) fun i y z h1 h2 => ?_
  rw [h1] at h2
  cases h2
  match i, h1 with
  | 0, h1 => cases h1; exact .str _ _
  | 1, h1 => cases h1; exact b.v
section
variable {P : Program} {w : World} {K : PySem.W.Frag} {mg : Str → Option Value} {base : Heap}
theorem scLaw : FnScope NLw ["_law_script"] (defScope sLaw) := ⟨rfl, rfl, rfl, by decide +kernel, rfl, by decide +kernel, by decide +kernel⟩
theorem ok_law {f C CN CT CM fI fOr pOr fCa fEx fPu fDr fPl fDraw fStart fPick fMixed fSame fNames fPm : Addr} {fd dI dOr dCa dEx dPu dDr dPl dDraw dStart dPick dMixed dSame dNames dPm : FuncData} (F : Fun K "law" "law" sLaw f fd)
    (G : Prog K P mg C CN CT CM fI fOr pOr fCa fEx fPu fDr fPl fDraw fStart fPick fMixed fSame fNames fPm dI dOr dCa dEx dPu dDr dPl dDraw dStart dPick dMixed dSame dNames dPm) : FnOk P w K mg base CX0 7 f fd ["_law_script"] (spLaw K) := by
  have T := G.T
  have R := G.R
  have GI : FnOk P w K mg base CX0 1 fI dI ["self", "names"] (spInitR K C) := ok_initR G.FI T R
  have GO : FnOk P w K mg base CX0 1 fOr dOr ["self"] (spOrder C) := ok_order G.FO T R
  have GC : FnOk P w K mg base (L2.CX P w) 4 fCa dCa ["self", "name", "to"] (spCallX C CN CM) := ok_callX G.FC T R G.X G.FL G.bL G.mL
  have GD : FnOk P w K mg base (L2.CX P w) 4 fDr dDr ["self", "name"] (spDropX C CN) := ok_dropX G.FD T R G.X G.FL G.bL G.mL
  have GPm : FnOk P w K mg base CX0 5 fPm dPm ["_law_rival", "_law_move"] (spPMove C) := ok_pmove G.pmv.F T R G.X G.HR G.FC G.bC2 G.mC G.FE G.bE G.mE G.FP G.bP G.mP G.FD G.bD G.mD G.FL G.bL G.mL
  have GDraw : FnOk P w K mg base CX0 1 fDraw dDraw ["_law_stream", "_law_many"] spDraw := ok_draw G.draw.F T
  have GStart : FnOk P w K mg base CX0 1 fStart dStart ["_law_script"] (spStart K) := ok_start G.start.F T
  have GPick : FnOk P w K mg base CX0 2 fPick dPick ["_law_stream", "_law_some"] spPick := ok_pick G.pick.F T G.draw
  have GMix : FnOk P w K mg base CX0 2 fMixed dMixed ["_law_stream", "_law_some"] spMixed := ok_mixed G.mixed.F T G.draw
  have GNames : FnOk P w K mg base CX0 3 fNames dNames ["_law_stream", "_law_many"] spNames := ok_names G.names.F T G.draw G.mixed
  have GSame : FnOk P w K mg base CX0 2 fSame dSame ["_law_found", "_law_due"] (spSame K 1) := ok_same G.same T 1
  refine F.ok scLaw (fun vs H Q E h => ?_) (fun cdv A outer s H vs Q E hr h => ?_)
  · obtain ⟨a, ns, rfl, _⟩ := h
    rfl
  · obtain ⟨a, ns, rfl, hS, hlen, kk⟩ := h
    have hr1 : Room 1 _ := hr.mono (by decide)
    have hr2 : Room 2 _ := hr.mono (by decide)
    have hr3 : Room 3 _ := hr.mono (by decide)
    have hr4 : Room 4 _ := hr.mono (by decide)
    have hr5 : Room 5 _ := hr.mono (by decide)
    refine ⟨_, pss_cons (ps_set (i := 1) scLaw.nd rfl (Or.inl rfl) (pe_call GStart hr1 rfl G.start.M G.start.F.kp G.start.B .nil pass0 (pa_cons (pv 0) pa_nil)))
        (pss_cons (ps_set (i := 2) scLaw.nd rfl (Or.inl rfl) (pe_call GNames hr3 rfl G.names.M G.names.F.kp G.names.B .nil pass0 (pa_cons (pv 1) (pa_cons pe_int pa_nil))))
        (pss_cons (ps_par (i := 3) (j := 4) (by rfl) scLaw.nd rfl rfl (by decide) rfl rfl (pa_cons (pe_make (E := E0) G.M GI hr2 rfl G.mgC G.bI .nil pass0 (pa_cons (pe_slice sl_list (pv 2) po_none (po_some pe_int)) pa_nil)) (pa_cons (pe_op op_add pe_int (pe_call GDraw hr1 rfl G.draw.M G.draw.F.kp G.draw.B .nil pass0 (pa_cons (pv 1) (pa_cons pe_int pa_nil)))) pa_nil)) (by rfl))
        (pss_cons (ps_for PassesOwn.never rfl (pi_list (pe_slice sl_list (pv 2) (po_some (pv 4)) (po_some pe_int))) (pg_name (i := 5) scLaw.nd rfl (Or.inl rfl)) (pss_one (ps_expr (pe_meth (E := E0) (pv 3) R.cl G.mD GD hr4 G.bD .nil passL (pa_cons (pv 5) pa_nil)))))
        (pss_cons (ps_for PassesOwn.never rfl (pi_range1 (by rfl) T.range_ (pa_cons pe_int pa_nil)) (pg_name (i := 6) scLaw.nd rfl (Or.inl rfl))
        (pss_cons (ps_set (i := 7) scLaw.nd rfl (Or.inl rfl) (pe_prop (E := E0) (pv 3) R.cl G.pO GO hr2 G.bO .nil pass0 rfl))
        (pss_cons (ps_set (i := 5) scLaw.nd rfl (Or.inl rfl) (pe_call GPick hr2 rfl G.pick.M G.pick.F.kp G.pick.B .nil pass0 (pa_cons (pv 1) (pa_cons (pv 7) pa_nil))))
        (pss_cons (ps_set (i := 8) scLaw.nd rfl (Or.inl rfl) (pe_call GDraw hr1 rfl G.draw.M G.draw.F.kp G.draw.B .nil pass0 (pa_cons (pv 1) (pa_cons (pe_op op_add (pe_bm PySem.F.plainAttrs_list PySem.F.slot_list_index PySem.F.type_list_index mt_index (pv 7) (pa_cons (pv 5) pa_nil)) pe_int) pa_nil))))
        (pss_cons (ps_expr (pe_meth (E := E0) (pv 3) R.cl G.mC GC hr4 G.bC2 .nil passL (pa_cons (pv 5) (pa_cons (pv 8) pa_nil))))
        (pss_cons (ps_par (i := 7) (j := 9) (by rfl) scLaw.nd rfl rfl (by decide) rfl rfl (pa_cons (pe_prop (E := E0) (pv 3) R.cl G.pO GO hr2 G.bO .nil pass0 rfl) (pa_cons (pe_fld (pv 3) rfl) pa_nil)) (by rfl))
        (pss_cons (ps_par3 (i := 10) (j := 11) (l := 12) (by rfl) scLaw.nd rfl rfl rfl (by decide) (by decide) (by decide) rfl rfl rfl (pa_cons (pe_call GPick hr2 rfl G.pick.M G.pick.F.kp G.pick.B .nil pass0 (pa_cons (pv 1) (pa_cons (pv 7) pa_nil))) (pa_cons (pe_ix ix_list (pv 2) pe_int (fun _ _ => rfl)) (pa_cons (pe_op op_add pe_int (pe_op op_mul (pe_call GDraw hr1 rfl G.draw.M G.draw.F.kp G.draw.B .nil pass0 (pa_cons (pv 1) (pa_cons pe_int pa_nil))) (pe_op op_pow pe_int pe_int))) pa_nil))) (by rfl))
        (pss_cut (ps_par (i := 13) (j := 4) (by rfl) scLaw.nd rfl rfl (by decide) rfl rfl (pa_cons (pe_bm PySem.F.plainAttrs_list PySem.F.slot_list_index PySem.F.type_list_index mt_index (pv 7) (pa_cons (pv 10) pa_nil)) (pa_cons (pe_callB call_len_seq (by rfl) T.len_ PySem.boot_len (pa_cons (pv 7) pa_nil)) pa_nil)) (by rfl))
        (pss_cut (ps_set (i := 14) scLaw.nd rfl (Or.inl rfl) (pe_lst (pa_cons (pe_tup (pa_cons (pe_tup (pa_cons pe_str (pa_cons (pv 10) (pa_cons (pe_op op_add (pv 13) (pv 12)) pa_nil)))) (pa_cons (pe_lst (pa_cons pe_str (pa_cons (pe_op op_add (pv 13) (pv 12)) pa_nil))) pa_nil))) (pa_cons (pe_tup (pa_cons (pe_tup (pa_cons pe_str (pa_cons (pv 10) (pa_cons (pe_un un_neg pe_int) pa_nil)))) (pa_cons (pe_lst (pa_cons pe_str (pa_cons (pe_un un_neg pe_int) pa_nil))) pa_nil))) pa_nil))))
        (pss_cut (ps_set (i := 14) scLaw.nd rfl (Or.inl rfl) (pe_op op_cat (pv 14) (pe_lst (pa_cons (pe_tup (pa_cons (pe_tup (pa_cons pe_str (pa_cons (pv 10) (pa_cons (pe_un un_neg (pv 12)) pa_nil)))) (pa_cons (pe_lst (pa_cons pe_str (pa_cons (pe_un un_neg (pv 12)) pa_nil))) pa_nil))) (pa_cons (pe_tup (pa_cons (pe_tup (pa_cons pe_str (pa_cons (pv 11) (pa_cons pe_int pa_nil)))) (pa_cons (pe_lst (pa_cons pe_str (pa_cons (pv 11) pa_nil))) pa_nil))) pa_nil)))))
        (pss_cut (ps_set (i := 14) scLaw.nd rfl (Or.inl rfl) (pe_op op_cat (pv 14) (pe_lst (pa_cons (pe_tup (pa_cons (pe_tup (pa_cons pe_str (pa_cons (pv 11) (pa_cons pe_non pa_nil)))) (pa_cons (pe_lst (pa_cons pe_str (pa_cons (pv 11) pa_nil))) pa_nil))) (pa_cons (pe_tup (pa_cons (pe_tup (pa_cons pe_str (pa_cons (pv 11) (pa_cons (pe_un un_neg (pv 12)) pa_nil)))) (pa_cons (pe_lst (pa_cons pe_str (pa_cons (pv 11) pa_nil))) pa_nil))) pa_nil)))))
        (pss_cut (ps_set (i := 14) scLaw.nd rfl (Or.inl rfl) (pe_op op_cat (pv 14) (pe_lst (pa_cons (pe_tup (pa_cons (pe_tup (pa_cons pe_str (pa_cons (pe_op op_sub (pv 4) pe_int) pa_nil))) (pa_cons (pe_lst (pa_cons pe_str (pa_cons (pe_op op_sub (pv 4) pe_int) pa_nil))) pa_nil))) (pa_cons (pe_tup (pa_cons (pe_tup (pa_cons pe_str (pa_cons (pe_un un_neg pe_int) pa_nil))) (pa_cons (pe_lst (pa_cons pe_str (pa_cons (pe_un un_neg pe_int) pa_nil))) pa_nil))) pa_nil)))))
        (pss_cut (ps_set (i := 14) scLaw.nd rfl (Or.inl rfl) (pe_op op_cat (pv 14) (pe_lst (pa_cons (pe_tup (pa_cons (pe_tup (pa_cons pe_str (pa_cons (pe_op op_add (pv 4) (pv 12)) pa_nil))) (pa_cons (pe_lst (pa_cons pe_str (pa_cons (pe_op op_add (pv 4) (pv 12)) pa_nil))) pa_nil))) (pa_cons (pe_tup (pa_cons (pe_tup (pa_cons pe_str (pa_cons (pv 11) pa_nil))) (pa_cons (pe_lst (pa_cons pe_str (pa_cons (pv 11) pa_nil))) pa_nil))) pa_nil)))))
        (pss_cut (ps_set (i := 14) scLaw.nd rfl (Or.inl rfl) (pe_op op_cat (pv 14) (pe_lst (pa_cons (pe_tup (pa_cons (pe_tup (pa_cons pe_str (pa_cons (pv 10) (pa_cons pe_int pa_nil)))) (pa_cons (pe_lst (pa_cons pe_str (pa_cons (pv 10) pa_nil))) pa_nil))) (pa_cons (pe_tup (pa_cons (pe_tup (pa_cons pe_str (pa_cons (pv 10) (pa_cons (pe_un un_neg (pv 12)) pa_nil)))) (pa_cons (pe_lst (pa_cons pe_str (pa_cons (pv 10) pa_nil))) pa_nil))) pa_nil)))))
        (pss_cut (ps_set (i := 14) scLaw.nd rfl (Or.inl rfl) (pe_op op_cat (pv 14) (pe_lst (pa_cons (pe_tup (pa_cons (pe_tup (pa_cons pe_str (pa_cons (pv 11) (pa_cons (pe_op op_add (pv 4) (pv 12)) pa_nil)))) (pa_cons (pe_lst (pa_cons pe_str (pa_cons (pe_op op_add (pv 4) (pv 12)) pa_nil))) pa_nil))) pa_nil))))
        (pss_cut (ps_set (i := 14) scLaw.nd rfl (Or.inl rfl) (pe_op op_cat (pv 14) (pe_lst (pa_cons (pe_tup (pa_cons (pe_tup (pa_cons pe_str (pa_cons (pv 11) (pa_cons (pe_un un_neg pe_int) pa_nil)))) (pa_cons (pe_lst (pa_cons pe_str (pa_cons (pe_un un_neg pe_int) pa_nil))) pa_nil))) pa_nil))))
        (pss_one (ps_for PassesOwn.never rfl (pi_list (pe_call GMix hr2 rfl G.mixed.M G.mixed.F.kp G.mixed.B .nil pass0 (pa_cons (pv 1) (pa_cons (pv 14) pa_nil)))) (pg_tup rfl (pgs_cons (pg_name (i := 15) scLaw.nd rfl (Or.inl rfl)) (pgs_cons (pg_name (i := 16) scLaw.nd rfl (Or.inl rfl)) pgs_nil)))
        (pss_cons (ps_if (pt_not (pt_val (pe_call GSame hr2 rfl G.same.M G.same.F.kp G.same.B .nil pass0 (pa_cons (pe_call GPm hr5 rfl G.pmv.M G.pmv.F.kp G.pmv.B .nil pass0 (pa_cons (pv 3) (pa_cons (pv 15) pa_nil))) (pa_cons (pv 16) pa_nil))))) pss_never pss_nil)
        (pss_one (ps_if (PW.pt (pw_or (pt_not (pt_val (pe_call GSame hr2 rfl G.same.M G.same.F.kp G.same.B .nil pass0 (pa_cons (pe_prop (E := E0) (pv 3) R.cl G.pO GO hr2 G.bO .nil pass0 rfl) (pa_cons (pv 7) pa_nil))))) (pw_or1 (pt_not (pt_val (pe_call GSame hr2 rfl G.same.M G.same.F.kp G.same.B .nil pass0 (pa_cons (pe_fld (pv 3) rfl) (pa_cons (pv 9) pa_nil)))))))) pss_never pss_nil)))))))))))))))))))))
        (pss_one (ps_ret pe_bl)))))), ?_⟩
    refine ⟨_, rfl, a, ns, rfl, hS, hlen, fun sa sl H1 S1 _ _ _ => ?_⟩
    refine ⟨_, rfl, sa, sl, 0, 6, rfl, S1, by decide, by decide, fun PL pool H2 hP hPl hPn hPo Pa Pl _ S2 k2 => ?_⟩
    refine ⟨_, rfl, 5, rfl, PL, _, rfl, SqL.of hP, fun G5 hG5 => ?_⟩
    have ec : cutV (tx pool) none (some (5 : Int)) = tx (pool.take 5) := by
      rw [show (some (5 : Int)) = some ((5 : Nat) : Int) from rfl, cut_pre]
      exact List.map_take.symm
    rw [ec]
    have e5 := new_ (o := .lst (tx (pool.take 5))) hG5
    intro x dx nx ndx nex
    refine mk_riv (.inl (SqL.of upd_same)) (hPn.sublist (List.take_sublist ..)) (by rw [List.length_take]; omega) nx ndx nex fun N H3 s3 rv hN => ⟨rfl, ?_⟩
    have e3 : Same H2 H3 := fun b o e => s3 _ _ (e5 _ _ e)
    have S3 := S2.same e3
    refine ⟨_, rfl, sa, sl, 14, 5, rfl, S3, by decide, by decide, sm48 (by decide) (by decide), fun r H4 r0 r1 S4 k4 => ⟨_, _, rfl, rfl, _, _, rfl, ?_⟩⟩
    obtain ⟨sz, esz, z1, z5⟩ : ∃ sz : Nat, 1 + r = (sz : Int) ∧ 1 ≤ sz ∧ sz ≤ 5 := ⟨(1 + r).toNat, by omega, by omega, by omega⟩
    obtain ⟨Na, Nl⟩ := S2.ne (show H2 N = none from by
      cases q : H2 N with
      | none => rfl
      | some o => have := e5 _ _ q; rw [hN] at this; cases this)
    have rv4 : RivAt C H4 x dx N (pool.take 5) 0 := by
      obtain ⟨h1, h2, h3, h4⟩ := rv
      obtain ⟨ne, ns', xx, z, g1, g2, _⟩ := id S3
      exact ⟨k4 _ _ (ne_of h1 g1 (by intro z; cases z)) (ne_of h1 g2 (by intro z; cases z)) h1, k4 _ _ Na Nl h2, h3, h4⟩
    have hP4 := k4 _ _ Pa Pl (e3 _ _ hP)
    have NP : N ≠ PL := fun z => by
      have q := e5 _ _ hP
      rw [← z, hN] at q
      cases q
    have lr4 : LR C H4 sa sl PL x dx N pool (pool.take 5) 0 15 := ⟨S4, hP4, rv4, ⟨Pa, Pl⟩, ⟨Na, Nl⟩, NP⟩
    refine ⟨_, rfl, _, rfl, _, rfl, 5, rfl, PL, _, rfl, SqL.of hP4, fun D5 hD5 => ⟨D5, rfl, ⟨_, SqL.of upd_same⟩, ?_⟩⟩
    have ecm : cutV (tx pool) (some (1 + r)) (some (5 : Int)) = tx ((pool.drop sz).take (5 - sz)) := by
      rw [esz, show (some (5 : Int)) = some ((5 : Nat) : Int) from rfl, cut_mid _ _ _ (by rw [List.length_map]; omega) (by rw [List.length_map]; omega)]
      rw [tx, tx, ← List.map_drop, ← List.map_take]
    have lr5 := lr4.same (new_ (o := .lst (cutV (tx pool) (some (1 + r)) (some (5 : Int)))) hD5)
    have gD5 : (upd H4 D5 (.lst (cutV (tx pool) (some (1 + r)) (some (5 : Int))))) D5 = some (.lst (tx ((pool.drop sz).take (5 - sz)))) := by rw [upd_same, ecm]
    have ND : N ≠ D5 := (ne_of_none rv4.2.1 hD5)
    generalize (upd H4 D5 (.lst (cutV (tx pool) (some (1 + r)) (some (5 : Int))))) = H5 at lr5 gD5 ⊢
    have hsp : pool.take 5 = pool.take sz ++ (pool.drop sz).take (5 - sz) := by
      have := (List.take_add (l := pool) (i := sz) (j := 5 - sz))
      rwa [show sz + (5 - sz) = 5 by omega] at this
    have hpl : (pool.take sz).length = sz := by rw [List.length_take]; omega
    rw [hsp] at lr5
    have nd5 : (pool.take sz ++ (pool.drop sz).take (5 - sz)).Nodup := by rw [← hsp]; exact hPn.sublist (List.take_sublist ..)
    have mem5 : ∀ z ∈ (pool.drop sz).take (5 - sz), z.length ≤ 100 := fun z hz => (hPo z (List.mem_of_mem_drop (List.mem_of_mem_take hz))).2
    generalize hrest : (pool.drop sz).take (5 - sz) = rest at lr5 gD5 nd5 mem5 ⊢
    have lrest : rest.length ≤ 5 := by rw [← hrest, List.length_take]; omega
    refine for_it (walk_l (xs := tx rest)) (fun i σ' H' => ∃ x5 : Option V, σ' = [some (.ref a), some (.ref sa), some (.ref PL), some (.ref x), some (.int (1 + r)), x5, none, none, none, none, none, none, none, none, none, none, none] ∧ LR C H' sa sl PL x dx N pool (pool.take sz ++ rest.drop i) 0 15 ∧ H' D5 = some (.lst (tx rest))) ?_ ?_ ?_ ?_
    · exact ⟨_, rfl, lr5, gD5⟩
    · rintro i _ H' _ ⟨x5, rfl, _, g⟩
      exact SqL.of g
    · rintro i xv _ H6 H' hi ⟨x5, rfl, lr, g⟩ ⟨rfl, hx⟩
      obtain ⟨nm, hnm, rfl⟩ : ∃ nm, rest[i]? = some nm ∧ xv = .str nm := by
        rw [List.getElem?_map] at hx
        obtain ⟨nm, h1, h2⟩ := Option.map_eq_some_iff.mp hx
        exact ⟨nm, h1, h2.symm⟩
      have il := (List.getElem?_eq_some_iff.mp hnm).1
      have hat : (pool.take sz ++ rest.drop i)[sz]? = some nm := by
        rw [List.getElem?_append_right (by omega), hpl, Nat.sub_self, List.getElem?_drop, Nat.add_zero]
        exact hnm
      have her : (pool.take sz ++ rest.drop i).eraseIdx sz = pool.take sz ++ rest.drop (i + 1) := by
        rw [List.eraseIdx_append_of_length_le (by omega), hpl, Nat.sub_self, List.drop_eq_getElem_cons il]
        rfl
      obtain ⟨q1, q2, q3, q4⟩ := id lr.rv
      refine ⟨_, rfl, x, dx, _, rfl, q1, fR_no _ _ (by decide +kernel) (by decide +kernel), _, rfl, x, dx, N, _, _, nm, rfl, lr.rv, mem5 nm (List.mem_of_getElem? hnm), fun j hj => ?_, fun z => absurd (List.mem_of_getElem? hat) z⟩
      obtain rfl := nd_ix q3 hj hat
      rw [her]
      refine ⟨_, rfl, lr.list (nd5.sublist ((List.drop_sublist ..).append_left _)) ?_, ?_⟩
      · rw [List.length_append, hpl, List.length_drop]
        omega
      · rw [upd_ne ND.symm]
        exact g
    · rintro _ H' ⟨x5, rfl, lr, _⟩
      have er : rest.drop (tx rest).length = [] := by rw [List.length_map]; exact List.drop_length
      rw [er, List.append_nil] at lr
      obtain ⟨o, ho⟩ : ∃ o, pool[5]? = some o := ⟨_, List.getElem?_eq_getElem (by omega)⟩
      have ol : o.length ≤ 100 := (hPo o (List.mem_of_getElem? ho)).2
      have ok0 : OkN o (pool.take sz) := by
        refine ⟨by omega, by omega, fun s hs => (hPo s (List.mem_of_mem_take hs)).2, fun hs => ?_⟩
        obtain ⟨j, hj⟩ := List.getElem?_of_mem hs
        have jl := (List.getElem?_eq_some_iff.mp hj).1
        rw [List.length_take] at jl
        rw [List.getElem?_take_of_lt (by omega)] at hj
        have := nd_ix hPn hj ho
        omega
      refine ⟨4, rfl, by decide, by decide, ?_⟩
      refine for_range (n := 4) (fun i σ' H' => ∃ (ss : List Str) (c : Int) (n : Nat) (x4 x5 x6 x7 x8 x9 x10 x11 x12 x13 x14 x15 x16 : Option V), σ' = [some (.ref a), some (.ref sa), some (.ref PL), some (.ref x), x4, x5, x6, x7, x8, x9, x10, x11, x12, x13, x14, x15, x16] ∧ LR C H' sa sl PL x dx N pool ss c n ∧ OkN o ss ∧ n ≤ 15 + 20 * i) ?_ ?_ ?_
      · exact ⟨_, 0, 15, _, _, _, _, _, _, _, _, _, _, _, _, _, rfl, lr, ok0, by omega⟩
      · clear lr ok0
        rintro i _ H7 hi ⟨ss, c, n, x4, x5, x6, x7, x8, x9, x10, x11, x12, x13, x14, x15, x16, rfl, lr, ok, hn⟩
        refine ⟨_, rfl, x, dx, _, rfl, lr.rv.1, x, dx, N, ss, c, rfl, lr.rv, fun q hq => ?_⟩
        have lr := lr.same (new_ (o := .lst (tx ss)) hq)
        have gq : (upd H7 q (.lst (tx ss))) q = some (.lst (tx ss)) := upd_same
        have ok1 := ok.1
        have ok2 := ok.2.1
        obtain ⟨qa, ql⟩ := lr.st.neS gq (by omega)
        generalize (upd H7 q (.lst (tx ss))) = H8 at lr gq ⊢
        refine ⟨_, rfl, _, rfl, sa, sl, q, n, tx ss, rfl, lr.st, by omega, gq, qa, ql, by rw [List.length_map]; omega, by rw [List.length_map]; omega, fun j v H9 hv S9 k9 => ?_⟩
        obtain ⟨nm, hnm, rfl⟩ : ∃ nm, ss[j]? = some nm ∧ v = .str nm := by
          rw [List.getElem?_map, Option.map_eq_some_iff] at hv
          obtain ⟨z, hz, rfl⟩ := hv
          exact ⟨z, hz, rfl⟩
        have lr := lr.kept S9 k9
        have gq := k9 _ _ qa ql gq
        have jl := (List.getElem?_eq_some_iff.mp hnm).1
        have nd := lr.rv.2.2.1
        obtain ⟨i1, i2, i3⟩ := idx_ok nd hnm
        refine ⟨_, rfl, _, rfl, .inl ⟨rfl, _, SqL.of gq⟩, _, rfl, q, _, _, j, _, rfl, rfl, SqL.of gq, rfl, tx_flat _, i1, i2, i3, _, _, rfl, rfl, sa, sl, n + 1, _, rfl, lr.st, by omega, by omega, sm48 (by omega) (by omega), fun to_ HA t0 t1 SA kA => ?_⟩
        have lr := lr.kept SA kA
        have eto : to_ = ((to_.toNat : Nat) : Int) := (Int.toNat_of_nonneg t0).symm
        have tl : to_.toNat ≤ j := by omega
        generalize to_.toNat = k at eto tl
        subst eto
        have pm : ((ss.eraseIdx j).take k ++ [nm] ++ (ss.eraseIdx j).drop k).Perm ss := by
          rw [List.append_assoc, List.singleton_append]
          refine (List.perm_middle (a := nm)).trans ?_
          rw [List.take_append_drop]
          exact perm_erase hnm
        refine ⟨_, rfl, x, dx, _, rfl, lr.rv.1, fR_no _ _ (by decide +kernel) (by decide +kernel), _, rfl, _, rfl, x, dx, N, ss, c, nm, .int (k : Nat), rfl, lr.rv, ok.2.2.1 nm (List.mem_of_getElem? hnm), .inr ⟨_, rfl⟩, fun z => absurd (List.mem_of_getElem? hnm) z, fun j' hj => ?_⟩
        obtain rfl := nd_ix nd hnm hj
        refine ⟨_, rfl, .inl ⟨k, rfl, tl, ?_⟩⟩
        have lr := lr.call (ss' := (ss.eraseIdx j).take k ++ [nm] ++ (ss.eraseIdx j).drop k) (c' := c + (j : Nat)) (move_nodup nd hnm k) (by rw [pm.length_eq]; omega)
        generalize (upd (upd HA N (.lst (tx ((ss.eraseIdx j).take k ++ [nm] ++ (ss.eraseIdx j).drop k)))) x (.ins C dx (fR N (c + (j : Nat))))) = HA2 at lr ⊢
        have okk := ok.perm pm
        generalize (ss.eraseIdx j).take k ++ [nm] ++ (ss.eraseIdx j).drop k = ss2 at lr okk ⊢
        generalize c + ((j : Nat) : Int) = c2 at lr ⊢
        clear gq qa ql i1 i2 i3 pm
        refine ⟨_, rfl, x, dx, _, rfl, lr.rv.1, x, dx, N, ss2, c2, rfl, lr.rv, fun q hq => ?_⟩
        have lr := lr.same (new_ (o := .lst (tx ss2)) hq)
        have gq : (upd HA2 q (.lst (tx ss2))) q = some (.lst (tx ss2)) := upd_same
        obtain ⟨qa, ql⟩ := lr.st.neS gq (by have := okk.1; omega)
        generalize (upd HA2 q (.lst (tx ss2))) = HA3 at lr gq ⊢
        refine ⟨_, rfl, x, C, dx, _, _, rfl, lr.rv.1, R.cl, R.nC, fR_cost _ _, _, _, rfl, ?_⟩
        have ok3 := okk.1
        have ok4 := okk.2.1
        refine ⟨_, rfl, _, rfl, sa, sl, q, n + 1 + 1, tx ss2, rfl, lr.st, by omega, gq, qa, ql, by rw [List.length_map]; omega, by rw [List.length_map]; omega, fun pl v HA4 hv S4' k4' => ?_⟩
        obtain ⟨nm2, hnm2, rfl⟩ : ∃ nm, ss2[pl]? = some nm ∧ v = .str nm := by
          rw [List.getElem?_map, Option.map_eq_some_iff] at hv
          obtain ⟨z, hz, rfl⟩ := hv
          exact ⟨z, hz, rfl⟩
        have lr := lr.kept S4' k4'
        have gq := k4' _ _ qa ql gq
        have pll := (List.getElem?_eq_some_iff.mp hnm2).1
        have nd2 := lr.rv.2.2.1
        obtain ⟨i1, i2, i3⟩ := idx_ok nd2 hnm2
        have in2 := List.mem_of_getElem? hnm2
        have no2 := okk.2.2.2
        have l2 := okk.2.2.1 nm2 in2
        refine ⟨_, rfl, PL, _, 5, .str o, rfl, rfl, SqL.of lr.hP, atI_nat (i := 5) (by rw [List.getElem?_map, ho]; rfl), _, rfl, sa, sl, n + 1 + 1 + 1, 3, rfl, lr.st, by omega, by decide, sm48 (by decide) (by decide), fun r' HC r0' r1' SC kC => ?_⟩
        refine ⟨_, _, rfl, rfl, (by show CPow 10 19; unfold CPow; decide), _, _, rfl, rfl, .inl (by omega), _, _, rfl, rfl, _, _, _, rfl, ?_⟩
        have lr := lr.kept SC kC
        have gq := kC _ _ qa ql gq
        dsimp only
        have hfar : 1 ≤ 1 + r' * 10 ^ (19 : Int).toNat := by
          have : 0 ≤ r' * 10 ^ (19 : Int).toNat := Int.mul_nonneg r0' (by decide)
          omega
        generalize 1 + r' * 10 ^ (19 : Int).toNat = far at hfar ⊢
        refine ⟨fun σ' H' => σ' = [some (.ref a), some (.ref sa), some (.ref PL), some (.ref x), some (.int (ss2.length : Int)), some (.str nm), some (.int (0 + (i : Int))), some (.ref q), some (.int (k : Int)), some (.int c2), some (.str nm2), some (.str o), some (.int far), some (.int (pl : Int)), x14, x15, x16] ∧ HC = H', ?_, ?_⟩
        refine ⟨_, rfl, .inl ⟨rfl, _, SqL.of gq⟩, _, rfl, q, _, _, pl, _, rfl, rfl, SqL.of gq, rfl, tx_flat _, i1, i2, i3, _, rfl, q, _, rfl, .inl (SqL.of gq), ?_⟩
        rw [List.length_map]
        refine ⟨_, _, rfl, rfl, rfl⟩
        rintro _ _ ⟨rfl, rfl⟩
        refine ⟨fun σ' H' => ∃ (L : Addr) (es : List V), σ' = [some (.ref a), some (.ref sa), some (.ref PL), some (.ref x), some (.int (ss2.length : Int)), some (.str nm), some (.int (0 + (i : Int))), some (.ref q), some (.int (k : Int)), some (.int c2), some (.str nm2), some (.str o), some (.int far), some (.int (pl : Int)), some (.ref L), x15, x16] ∧ LR C H' sa sl PL x dx N pool ss2 c2 (n + 1 + 1 + 1 + 1) ∧ H' q = some (.lst (tx ss2)) ∧ H' L = some (.lst es) ∧ es.length = 2 ∧ ∀ e ∈ es, Ent H' ss2 e, ?_, ?_⟩
        · refine ⟨_, rfl, _, rfl, _, rfl, _, _, rfl, rfl, by show 3 ≤ sizeLine; decide, fun T1 hT1 => ⟨_, rfl, _, rfl, _, _, rfl, rfl, by show 2 ≤ sizeLine; decide, fun D1 hD1 => ⟨by show 2 ≤ sizeLine; decide, fun P1 hP1 => ?_⟩⟩⟩
          have he : Same HC (upd (upd (upd HC T1 (.tup [V.str "call", V.str nm2, V.int ((pl : Int) + far)])) D1 (.lst [V.str "InvalidMove", V.int ((pl : Int) + far)])) P1 (.tup [.ref T1, .ref D1])) ∧ Ent (upd (upd (upd HC T1 (.tup [V.str "call", V.str nm2, V.int ((pl : Int) + far)])) D1 (.lst [V.str "InvalidMove", V.int ((pl : Int) + far)])) P1 (.tup [.ref T1, .ref D1])) ss2 (.ref P1) := ent_mk (mv := .call nm2 (some ((pl : Int) + far))) (x := "InvalidMove") (v := V.int ((pl : Int) + far)) hT1 hD1 hP1 (.callOut hnm2 nd2 l2 (by omega))
          obtain ⟨es, e1⟩ := he
          have lr := lr.same es
          have gq := es _ _ gq
          clear es
          generalize (upd (upd (upd HC T1 (.tup [V.str "call", V.str nm2, V.int ((pl : Int) + far)])) D1 (.lst [V.str "InvalidMove", V.int ((pl : Int) + far)])) P1 (.tup [.ref T1, .ref D1])) = HB1 at lr gq e1 ⊢
          refine ⟨_, rfl, _, rfl, by show 3 ≤ sizeLine; decide, fun T2 hT2 => ⟨_, rfl, by show 2 ≤ sizeLine; decide, fun D2 hD2 => ⟨by show 2 ≤ sizeLine; decide, fun P2 hP2 => ?_⟩⟩⟩
          have he : Same HB1 (upd (upd (upd HB1 T2 (.tup [V.str "call", V.str nm2, V.int (-1)])) D2 (.lst [V.str "InvalidMove", V.int (-1)])) P2 (.tup [.ref T2, .ref D2])) ∧ Ent (upd (upd (upd HB1 T2 (.tup [V.str "call", V.str nm2, V.int (-1)])) D2 (.lst [V.str "InvalidMove", V.int (-1)])) P2 (.tup [.ref T2, .ref D2])) ss2 (.ref P2) := ent_mk (mv := .call nm2 (some (-1))) (x := "InvalidMove") (v := V.int (-1)) hT2 hD2 hP2 (.callOut hnm2 nd2 l2 (by omega))
          obtain ⟨es, e2⟩ := he
          have lr := lr.same es
          have gq := es _ _ gq
          have e1 := e1.same es
          clear es
          generalize (upd (upd (upd HB1 T2 (.tup [V.str "call", V.str nm2, V.int (-1)])) D2 (.lst [V.str "InvalidMove", V.int (-1)])) P2 (.tup [.ref T2, .ref D2])) = HB2 at lr gq e2 e1 ⊢
          refine ⟨by show 2 ≤ sizeLine; decide, fun M0 hM0 => ?_⟩
          have es := new_ (o := .lst [V.ref P1, V.ref P2]) hM0
          have lr := lr.same es
          have gq := es _ _ gq
          have e1 := e1.same es
          have e2 := e2.same es
          have gM : (upd HB2 M0 (.lst [V.ref P1, V.ref P2])) M0 = some (.lst [V.ref P1, V.ref P2]) := upd_same
          have hem : ∀ e ∈ [V.ref P1, V.ref P2], Ent (upd HB2 M0 (.lst [V.ref P1, V.ref P2])) ss2 e := two_all e1 e2
          clear es e1 e2
          generalize (upd HB2 M0 (.lst [V.ref P1, V.ref P2])) = HB3 at lr gq gM hem ⊢
          exact ⟨M0, [V.ref P1, V.ref P2], rfl, lr, gq, gM, rfl, hem⟩
        rintro _ HC ⟨L, es0, rfl, lr, gq, gL, hel, hes⟩
        refine ⟨fun σ' H' => ∃ (L : Addr) (es : List V), σ' = [some (.ref a), some (.ref sa), some (.ref PL), some (.ref x), some (.int (ss2.length : Int)), some (.str nm), some (.int (0 + (i : Int))), some (.ref q), some (.int (k : Int)), some (.int c2), some (.str nm2), some (.str o), some (.int far), some (.int (pl : Int)), some (.ref L), x15, x16] ∧ LR C H' sa sl PL x dx N pool ss2 c2 (n + 1 + 1 + 1 + 1) ∧ H' q = some (.lst (tx ss2)) ∧ H' L = some (.lst es) ∧ es.length = 4 ∧ ∀ e ∈ es, Ent H' ss2 e, ?_, ?_⟩
        · refine ⟨_, rfl, _, rfl, _, rfl, _, rfl, by show 3 ≤ sizeLine; decide, fun T3 hT3 => ⟨_, rfl, _, rfl, by show 2 ≤ sizeLine; decide, fun D3 hD3 => ⟨by show 2 ≤ sizeLine; decide, fun P3 hP3 => ?_⟩⟩⟩
          have he : Same HC (upd (upd (upd HC T3 (.tup [V.str "call", V.str nm2, V.int (-far)])) D3 (.lst [V.str "InvalidMove", V.int (-far)])) P3 (.tup [.ref T3, .ref D3])) ∧ Ent (upd (upd (upd HC T3 (.tup [V.str "call", V.str nm2, V.int (-far)])) D3 (.lst [V.str "InvalidMove", V.int (-far)])) P3 (.tup [.ref T3, .ref D3])) ss2 (.ref P3) := ent_mk (mv := .call nm2 (some (-far))) (x := "InvalidMove") (v := V.int (-far)) hT3 hD3 hP3 (.callOut hnm2 nd2 l2 (by omega))
          obtain ⟨es, e3⟩ := he
          have lr := lr.same es
          have gq := es _ _ gq
          have gL := es _ _ gL
          have hes := fun e h => (hes e h).same es
          clear es
          generalize (upd (upd (upd HC T3 (.tup [V.str "call", V.str nm2, V.int (-far)])) D3 (.lst [V.str "InvalidMove", V.int (-far)])) P3 (.tup [.ref T3, .ref D3])) = HB4 at lr gq e3 gL hes ⊢
          refine ⟨_, rfl, by show 3 ≤ sizeLine; decide, fun T4 hT4 => ⟨_, rfl, by show 2 ≤ sizeLine; decide, fun D4 hD4 => ⟨by show 2 ≤ sizeLine; decide, fun P4 hP4 => ?_⟩⟩⟩
          have he : Same HB4 (upd (upd (upd HB4 T4 (.tup [V.str "call", V.str o, V.int 0])) D4 (.lst [V.str "NoCase", V.str o])) P4 (.tup [.ref T4, .ref D4])) ∧ Ent (upd (upd (upd HB4 T4 (.tup [V.str "call", V.str o, V.int 0])) D4 (.lst [V.str "NoCase", V.str o])) P4 (.tup [.ref T4, .ref D4])) ss2 (.ref P4) := ent_mk (mv := .call o (some 0)) (x := "NoCase") (v := V.str o) hT4 hD4 hP4 (.callNo no2 ol)
          obtain ⟨es, e4⟩ := he
          have lr := lr.same es
          have gq := es _ _ gq
          have e3 := e3.same es
          have gL := es _ _ gL
          have hes := fun e h => (hes e h).same es
          clear es
          generalize (upd (upd (upd HB4 T4 (.tup [V.str "call", V.str o, V.int 0])) D4 (.lst [V.str "NoCase", V.str o])) P4 (.tup [.ref T4, .ref D4])) = HB5 at lr gq e4 gL hes e3 ⊢
          refine ⟨by show 2 ≤ sizeLine; decide, fun M1 hM1 => ?_⟩
          have es := new_ (o := .lst [V.ref P3, V.ref P4]) hM1
          have lr := lr.same es
          have gq := es _ _ gq
          have e3 := e3.same es
          have e4 := e4.same es
          have gM : (upd HB5 M1 (.lst [V.ref P3, V.ref P4])) M1 = some (.lst [V.ref P3, V.ref P4]) := upd_same
          have hem : ∀ e ∈ [V.ref P3, V.ref P4], Ent (upd HB5 M1 (.lst [V.ref P3, V.ref P4])) ss2 e := two_all e3 e4
          have gL := es _ _ gL
          have hes := fun e h => (hes e h).same es
          clear es e3 e4
          generalize (upd HB5 M1 (.lst [V.ref P3, V.ref P4])) = HB6 at lr gq gM hem gL hes ⊢
          refine ⟨_, _, _, _, rfl, rfl, gL, gM, Nat.le_trans (m := 14) (by rw [hel]; simp only [List.length_cons, List.length_nil]; omega) (by decide), fun W hW => ?_⟩
          have es' := new_ (o := .lst (es0 ++ [V.ref P3, V.ref P4])) hW
          exact ⟨W, es0 ++ [V.ref P3, V.ref P4], rfl, lr.same es', es' _ _ gq, upd_same, by rw [List.length_append, hel]; rfl, cat_all es' hes hem⟩
        rintro _ HC ⟨L, es0, rfl, lr, gq, gL, hel, hes⟩
        refine ⟨fun σ' H' => ∃ (L : Addr) (es : List V), σ' = [some (.ref a), some (.ref sa), some (.ref PL), some (.ref x), some (.int (ss2.length : Int)), some (.str nm), some (.int (0 + (i : Int))), some (.ref q), some (.int (k : Int)), some (.int c2), some (.str nm2), some (.str o), some (.int far), some (.int (pl : Int)), some (.ref L), x15, x16] ∧ LR C H' sa sl PL x dx N pool ss2 c2 (n + 1 + 1 + 1 + 1) ∧ H' q = some (.lst (tx ss2)) ∧ H' L = some (.lst es) ∧ es.length = 6 ∧ ∀ e ∈ es, Ent H' ss2 e, ?_, ?_⟩
        · refine ⟨_, rfl, _, rfl, by show 3 ≤ sizeLine; decide, fun T5 hT5 => ⟨_, rfl, by show 2 ≤ sizeLine; decide, fun D5 hD5 => ⟨by show 2 ≤ sizeLine; decide, fun P5 hP5 => ?_⟩⟩⟩
          have he : Same HC (upd (upd (upd HC T5 (.tup [V.str "call", V.str o, V.non])) D5 (.lst [V.str "NoCase", V.str o])) P5 (.tup [.ref T5, .ref D5])) ∧ Ent (upd (upd (upd HC T5 (.tup [V.str "call", V.str o, V.non])) D5 (.lst [V.str "NoCase", V.str o])) P5 (.tup [.ref T5, .ref D5])) ss2 (.ref P5) := ent_mk (mv := .call o none) (x := "NoCase") (v := V.str o) hT5 hD5 hP5 (.callNo no2 ol)
          obtain ⟨es, e5⟩ := he
          have lr := lr.same es
          have gq := es _ _ gq
          have gL := es _ _ gL
          have hes := fun e h => (hes e h).same es
          clear es
          generalize (upd (upd (upd HC T5 (.tup [V.str "call", V.str o, V.non])) D5 (.lst [V.str "NoCase", V.str o])) P5 (.tup [.ref T5, .ref D5])) = HB7 at lr gq e5 gL hes ⊢
          refine ⟨_, rfl, _, rfl, _, rfl, by show 3 ≤ sizeLine; decide, fun T6 hT6 => ⟨_, rfl, by show 2 ≤ sizeLine; decide, fun D6 hD6 => ⟨by show 2 ≤ sizeLine; decide, fun P6 hP6 => ?_⟩⟩⟩
          have he : Same HB7 (upd (upd (upd HB7 T6 (.tup [V.str "call", V.str o, V.int (-far)])) D6 (.lst [V.str "NoCase", V.str o])) P6 (.tup [.ref T6, .ref D6])) ∧ Ent (upd (upd (upd HB7 T6 (.tup [V.str "call", V.str o, V.int (-far)])) D6 (.lst [V.str "NoCase", V.str o])) P6 (.tup [.ref T6, .ref D6])) ss2 (.ref P6) := ent_mk (mv := .call o (some (-far))) (x := "NoCase") (v := V.str o) hT6 hD6 hP6 (.callNo no2 ol)
          obtain ⟨es, e6⟩ := he
          have lr := lr.same es
          have gq := es _ _ gq
          have e5 := e5.same es
          have gL := es _ _ gL
          have hes := fun e h => (hes e h).same es
          clear es
          generalize (upd (upd (upd HB7 T6 (.tup [V.str "call", V.str o, V.int (-far)])) D6 (.lst [V.str "NoCase", V.str o])) P6 (.tup [.ref T6, .ref D6])) = HB8 at lr gq e6 gL hes e5 ⊢
          refine ⟨by show 2 ≤ sizeLine; decide, fun M2 hM2 => ?_⟩
          have es := new_ (o := .lst [V.ref P5, V.ref P6]) hM2
          have lr := lr.same es
          have gq := es _ _ gq
          have e5 := e5.same es
          have e6 := e6.same es
          have gM : (upd HB8 M2 (.lst [V.ref P5, V.ref P6])) M2 = some (.lst [V.ref P5, V.ref P6]) := upd_same
          have hem : ∀ e ∈ [V.ref P5, V.ref P6], Ent (upd HB8 M2 (.lst [V.ref P5, V.ref P6])) ss2 e := two_all e5 e6
          have gL := es _ _ gL
          have hes := fun e h => (hes e h).same es
          clear es e5 e6
          generalize (upd HB8 M2 (.lst [V.ref P5, V.ref P6])) = HB9 at lr gq gM hem gL hes ⊢
          refine ⟨_, _, _, _, rfl, rfl, gL, gM, Nat.le_trans (m := 14) (by rw [hel]; simp only [List.length_cons, List.length_nil]; omega) (by decide), fun W hW => ?_⟩
          have es' := new_ (o := .lst (es0 ++ [V.ref P5, V.ref P6])) hW
          exact ⟨W, es0 ++ [V.ref P5, V.ref P6], rfl, lr.same es', es' _ _ gq, upd_same, by rw [List.length_append, hel]; rfl, cat_all es' hes hem⟩
        rintro _ HC ⟨L, es0, rfl, lr, gq, gL, hel, hes⟩
        refine ⟨fun σ' H' => ∃ (L : Addr) (es : List V), σ' = [some (.ref a), some (.ref sa), some (.ref PL), some (.ref x), some (.int (ss2.length : Int)), some (.str nm), some (.int (0 + (i : Int))), some (.ref q), some (.int (k : Int)), some (.int c2), some (.str nm2), some (.str o), some (.int far), some (.int (pl : Int)), some (.ref L), x15, x16] ∧ LR C H' sa sl PL x dx N pool ss2 c2 (n + 1 + 1 + 1 + 1) ∧ H' q = some (.lst (tx ss2)) ∧ H' L = some (.lst es) ∧ es.length = 8 ∧ ∀ e ∈ es, Ent H' ss2 e, ?_, ?_⟩
        · refine ⟨_, rfl, _, rfl, _, _, rfl, rfl, by show 2 ≤ sizeLine; decide, fun T7 hT7 => ⟨_, rfl, _, _, rfl, rfl, by show 2 ≤ sizeLine; decide, fun D7 hD7 => ⟨by show 2 ≤ sizeLine; decide, fun P7 hP7 => ?_⟩⟩⟩
          have he : Same HC (upd (upd (upd HC T7 (.tup [V.str "exchange", V.int ((ss2.length : Int) - 1)])) D7 (.lst [V.str "InvalidMove", V.int ((ss2.length : Int) - 1)])) P7 (.tup [.ref T7, .ref D7])) ∧ Ent (upd (upd (upd HC T7 (.tup [V.str "exchange", V.int ((ss2.length : Int) - 1)])) D7 (.lst [V.str "InvalidMove", V.int ((ss2.length : Int) - 1)])) P7 (.tup [.ref T7, .ref D7])) ss2 (.ref P7) := ent_mk (mv := .exch ((ss2.length : Int) - 1)) (x := "InvalidMove") (v := V.int ((ss2.length : Int) - 1)) hT7 hD7 hP7 (.exch (by omega))
          obtain ⟨es, e7⟩ := he
          have lr := lr.same es
          have gq := es _ _ gq
          have gL := es _ _ gL
          have hes := fun e h => (hes e h).same es
          clear es
          generalize (upd (upd (upd HC T7 (.tup [V.str "exchange", V.int ((ss2.length : Int) - 1)])) D7 (.lst [V.str "InvalidMove", V.int ((ss2.length : Int) - 1)])) P7 (.tup [.ref T7, .ref D7])) = HB10 at lr gq e7 gL hes ⊢
          refine ⟨_, rfl, by show 2 ≤ sizeLine; decide, fun T8 hT8 => ⟨_, rfl, by show 2 ≤ sizeLine; decide, fun D8 hD8 => ⟨by show 2 ≤ sizeLine; decide, fun P8 hP8 => ?_⟩⟩⟩
          have he : Same HB10 (upd (upd (upd HB10 T8 (.tup [V.str "exchange", V.int (-1)])) D8 (.lst [V.str "InvalidMove", V.int (-1)])) P8 (.tup [.ref T8, .ref D8])) ∧ Ent (upd (upd (upd HB10 T8 (.tup [V.str "exchange", V.int (-1)])) D8 (.lst [V.str "InvalidMove", V.int (-1)])) P8 (.tup [.ref T8, .ref D8])) ss2 (.ref P8) := ent_mk (mv := .exch (-1)) (x := "InvalidMove") (v := V.int (-1)) hT8 hD8 hP8 (.exch (by omega))
          obtain ⟨es, e8⟩ := he
          have lr := lr.same es
          have gq := es _ _ gq
          have e7 := e7.same es
          have gL := es _ _ gL
          have hes := fun e h => (hes e h).same es
          clear es
          generalize (upd (upd (upd HB10 T8 (.tup [V.str "exchange", V.int (-1)])) D8 (.lst [V.str "InvalidMove", V.int (-1)])) P8 (.tup [.ref T8, .ref D8])) = HB11 at lr gq e8 gL hes e7 ⊢
          refine ⟨by show 2 ≤ sizeLine; decide, fun M3 hM3 => ?_⟩
          have es := new_ (o := .lst [V.ref P7, V.ref P8]) hM3
          have lr := lr.same es
          have gq := es _ _ gq
          have e7 := e7.same es
          have e8 := e8.same es
          have gM : (upd HB11 M3 (.lst [V.ref P7, V.ref P8])) M3 = some (.lst [V.ref P7, V.ref P8]) := upd_same
          have hem : ∀ e ∈ [V.ref P7, V.ref P8], Ent (upd HB11 M3 (.lst [V.ref P7, V.ref P8])) ss2 e := two_all e7 e8
          have gL := es _ _ gL
          have hes := fun e h => (hes e h).same es
          clear es e7 e8
          generalize (upd HB11 M3 (.lst [V.ref P7, V.ref P8])) = HB12 at lr gq gM hem gL hes ⊢
          refine ⟨_, _, _, _, rfl, rfl, gL, gM, Nat.le_trans (m := 14) (by rw [hel]; simp only [List.length_cons, List.length_nil]; omega) (by decide), fun W hW => ?_⟩
          have es' := new_ (o := .lst (es0 ++ [V.ref P7, V.ref P8])) hW
          exact ⟨W, es0 ++ [V.ref P7, V.ref P8], rfl, lr.same es', es' _ _ gq, upd_same, by rw [List.length_append, hel]; rfl, cat_all es' hes hem⟩
        rintro _ HC ⟨L, es0, rfl, lr, gq, gL, hel, hes⟩
        refine ⟨fun σ' H' => ∃ (L : Addr) (es : List V), σ' = [some (.ref a), some (.ref sa), some (.ref PL), some (.ref x), some (.int (ss2.length : Int)), some (.str nm), some (.int (0 + (i : Int))), some (.ref q), some (.int (k : Int)), some (.int c2), some (.str nm2), some (.str o), some (.int far), some (.int (pl : Int)), some (.ref L), x15, x16] ∧ LR C H' sa sl PL x dx N pool ss2 c2 (n + 1 + 1 + 1 + 1) ∧ H' q = some (.lst (tx ss2)) ∧ H' L = some (.lst es) ∧ es.length = 10 ∧ ∀ e ∈ es, Ent H' ss2 e, ?_, ?_⟩
        · refine ⟨_, rfl, _, rfl, _, rfl, _, _, rfl, rfl, by show 2 ≤ sizeLine; decide, fun T9 hT9 => ⟨_, rfl, _, rfl, _, _, rfl, rfl, by show 2 ≤ sizeLine; decide, fun D9 hD9 => ⟨by show 2 ≤ sizeLine; decide, fun P9 hP9 => ?_⟩⟩⟩
          have he : Same HC (upd (upd (upd HC T9 (.tup [V.str "exchange", V.int ((ss2.length : Int) + far)])) D9 (.lst [V.str "InvalidMove", V.int ((ss2.length : Int) + far)])) P9 (.tup [.ref T9, .ref D9])) ∧ Ent (upd (upd (upd HC T9 (.tup [V.str "exchange", V.int ((ss2.length : Int) + far)])) D9 (.lst [V.str "InvalidMove", V.int ((ss2.length : Int) + far)])) P9 (.tup [.ref T9, .ref D9])) ss2 (.ref P9) := ent_mk (mv := .exch ((ss2.length : Int) + far)) (x := "InvalidMove") (v := V.int ((ss2.length : Int) + far)) hT9 hD9 hP9 (.exch (by omega))
          obtain ⟨es, e9⟩ := he
          have lr := lr.same es
          have gq := es _ _ gq
          have gL := es _ _ gL
          have hes := fun e h => (hes e h).same es
          clear es
          generalize (upd (upd (upd HC T9 (.tup [V.str "exchange", V.int ((ss2.length : Int) + far)])) D9 (.lst [V.str "InvalidMove", V.int ((ss2.length : Int) + far)])) P9 (.tup [.ref T9, .ref D9])) = HB13 at lr gq e9 gL hes ⊢
          refine ⟨_, rfl, by show 2 ≤ sizeLine; decide, fun T10 hT10 => ⟨_, rfl, by show 2 ≤ sizeLine; decide, fun D10 hD10 => ⟨by show 2 ≤ sizeLine; decide, fun P10 hP10 => ?_⟩⟩⟩
          have he : Same HB13 (upd (upd (upd HB13 T10 (.tup [V.str "drop", V.str o])) D10 (.lst [V.str "NoCase", V.str o])) P10 (.tup [.ref T10, .ref D10])) ∧ Ent (upd (upd (upd HB13 T10 (.tup [V.str "drop", V.str o])) D10 (.lst [V.str "NoCase", V.str o])) P10 (.tup [.ref T10, .ref D10])) ss2 (.ref P10) := ent_mk (mv := .drop o) (x := "NoCase") (v := V.str o) hT10 hD10 hP10 (.dropNo no2 ol)
          obtain ⟨es, e10⟩ := he
          have lr := lr.same es
          have gq := es _ _ gq
          have e9 := e9.same es
          have gL := es _ _ gL
          have hes := fun e h => (hes e h).same es
          clear es
          generalize (upd (upd (upd HB13 T10 (.tup [V.str "drop", V.str o])) D10 (.lst [V.str "NoCase", V.str o])) P10 (.tup [.ref T10, .ref D10])) = HB14 at lr gq e10 gL hes e9 ⊢
          refine ⟨by show 2 ≤ sizeLine; decide, fun M4 hM4 => ?_⟩
          have es := new_ (o := .lst [V.ref P9, V.ref P10]) hM4
          have lr := lr.same es
          have gq := es _ _ gq
          have e9 := e9.same es
          have e10 := e10.same es
          have gM : (upd HB14 M4 (.lst [V.ref P9, V.ref P10])) M4 = some (.lst [V.ref P9, V.ref P10]) := upd_same
          have hem : ∀ e ∈ [V.ref P9, V.ref P10], Ent (upd HB14 M4 (.lst [V.ref P9, V.ref P10])) ss2 e := two_all e9 e10
          have gL := es _ _ gL
          have hes := fun e h => (hes e h).same es
          clear es e9 e10
          generalize (upd HB14 M4 (.lst [V.ref P9, V.ref P10])) = HB15 at lr gq gM hem gL hes ⊢
          refine ⟨_, _, _, _, rfl, rfl, gL, gM, Nat.le_trans (m := 14) (by rw [hel]; simp only [List.length_cons, List.length_nil]; omega) (by decide), fun W hW => ?_⟩
          have es' := new_ (o := .lst (es0 ++ [V.ref P9, V.ref P10])) hW
          exact ⟨W, es0 ++ [V.ref P9, V.ref P10], rfl, lr.same es', es' _ _ gq, upd_same, by rw [List.length_append, hel]; rfl, cat_all es' hes hem⟩
        rintro _ HC ⟨L, es0, rfl, lr, gq, gL, hel, hes⟩
        refine ⟨fun σ' H' => ∃ (L : Addr) (es : List V), σ' = [some (.ref a), some (.ref sa), some (.ref PL), some (.ref x), some (.int (ss2.length : Int)), some (.str nm), some (.int (0 + (i : Int))), some (.ref q), some (.int (k : Int)), some (.int c2), some (.str nm2), some (.str o), some (.int far), some (.int (pl : Int)), some (.ref L), x15, x16] ∧ LR C H' sa sl PL x dx N pool ss2 c2 (n + 1 + 1 + 1 + 1) ∧ H' q = some (.lst (tx ss2)) ∧ H' L = some (.lst es) ∧ es.length = 12 ∧ ∀ e ∈ es, Ent H' ss2 e, ?_, ?_⟩
        · refine ⟨_, rfl, _, rfl, by show 3 ≤ sizeLine; decide, fun T11 hT11 => ⟨_, rfl, by show 2 ≤ sizeLine; decide, fun D11 hD11 => ⟨by show 2 ≤ sizeLine; decide, fun P11 hP11 => ?_⟩⟩⟩
          have he : Same HC (upd (upd (upd HC T11 (.tup [V.str "put", V.str nm2, V.int 0])) D11 (.lst [V.str "CaseThere", V.str nm2])) P11 (.tup [.ref T11, .ref D11])) ∧ Ent (upd (upd (upd HC T11 (.tup [V.str "put", V.str nm2, V.int 0])) D11 (.lst [V.str "CaseThere", V.str nm2])) P11 (.tup [.ref T11, .ref D11])) ss2 (.ref P11) := ent_mk (mv := .put nm2 0) (x := "CaseThere") (v := V.str nm2) hT11 hD11 hP11 (.putThere in2 l2)
          obtain ⟨es, e11⟩ := he
          have lr := lr.same es
          have gq := es _ _ gq
          have gL := es _ _ gL
          have hes := fun e h => (hes e h).same es
          clear es
          generalize (upd (upd (upd HC T11 (.tup [V.str "put", V.str nm2, V.int 0])) D11 (.lst [V.str "CaseThere", V.str nm2])) P11 (.tup [.ref T11, .ref D11])) = HB16 at lr gq e11 gL hes ⊢
          refine ⟨_, rfl, _, rfl, _, rfl, by show 3 ≤ sizeLine; decide, fun T12 hT12 => ⟨_, rfl, by show 2 ≤ sizeLine; decide, fun D12 hD12 => ⟨by show 2 ≤ sizeLine; decide, fun P12 hP12 => ?_⟩⟩⟩
          have he : Same HB16 (upd (upd (upd HB16 T12 (.tup [V.str "put", V.str nm2, V.int (-far)])) D12 (.lst [V.str "CaseThere", V.str nm2])) P12 (.tup [.ref T12, .ref D12])) ∧ Ent (upd (upd (upd HB16 T12 (.tup [V.str "put", V.str nm2, V.int (-far)])) D12 (.lst [V.str "CaseThere", V.str nm2])) P12 (.tup [.ref T12, .ref D12])) ss2 (.ref P12) := ent_mk (mv := .put nm2 (-far)) (x := "CaseThere") (v := V.str nm2) hT12 hD12 hP12 (.putThere in2 l2)
          obtain ⟨es, e12⟩ := he
          have lr := lr.same es
          have gq := es _ _ gq
          have e11 := e11.same es
          have gL := es _ _ gL
          have hes := fun e h => (hes e h).same es
          clear es
          generalize (upd (upd (upd HB16 T12 (.tup [V.str "put", V.str nm2, V.int (-far)])) D12 (.lst [V.str "CaseThere", V.str nm2])) P12 (.tup [.ref T12, .ref D12])) = HB17 at lr gq e12 gL hes e11 ⊢
          refine ⟨by show 2 ≤ sizeLine; decide, fun M5 hM5 => ?_⟩
          have es := new_ (o := .lst [V.ref P11, V.ref P12]) hM5
          have lr := lr.same es
          have gq := es _ _ gq
          have e11 := e11.same es
          have e12 := e12.same es
          have gM : (upd HB17 M5 (.lst [V.ref P11, V.ref P12])) M5 = some (.lst [V.ref P11, V.ref P12]) := upd_same
          have hem : ∀ e ∈ [V.ref P11, V.ref P12], Ent (upd HB17 M5 (.lst [V.ref P11, V.ref P12])) ss2 e := two_all e11 e12
          have gL := es _ _ gL
          have hes := fun e h => (hes e h).same es
          clear es e11 e12
          generalize (upd HB17 M5 (.lst [V.ref P11, V.ref P12])) = HB18 at lr gq gM hem gL hes ⊢
          refine ⟨_, _, _, _, rfl, rfl, gL, gM, Nat.le_trans (m := 14) (by rw [hel]; simp only [List.length_cons, List.length_nil]; omega) (by decide), fun W hW => ?_⟩
          have es' := new_ (o := .lst (es0 ++ [V.ref P11, V.ref P12])) hW
          exact ⟨W, es0 ++ [V.ref P11, V.ref P12], rfl, lr.same es', es' _ _ gq, upd_same, by rw [List.length_append, hel]; rfl, cat_all es' hes hem⟩
        rintro _ HC ⟨L, es0, rfl, lr, gq, gL, hel, hes⟩
        refine ⟨fun σ' H' => ∃ (L : Addr) (es : List V), σ' = [some (.ref a), some (.ref sa), some (.ref PL), some (.ref x), some (.int (ss2.length : Int)), some (.str nm), some (.int (0 + (i : Int))), some (.ref q), some (.int (k : Int)), some (.int c2), some (.str nm2), some (.str o), some (.int far), some (.int (pl : Int)), some (.ref L), x15, x16] ∧ LR C H' sa sl PL x dx N pool ss2 c2 (n + 1 + 1 + 1 + 1) ∧ H' q = some (.lst (tx ss2)) ∧ H' L = some (.lst es) ∧ es.length = 13 ∧ ∀ e ∈ es, Ent H' ss2 e, ?_, ?_⟩
        · refine ⟨_, rfl, _, rfl, _, rfl, _, rfl, _, _, rfl, rfl, by show 3 ≤ sizeLine; decide, fun T13 hT13 => ⟨_, rfl, _, rfl, _, _, rfl, rfl, by show 2 ≤ sizeLine; decide, fun D13 hD13 => ⟨by show 2 ≤ sizeLine; decide, fun P13 hP13 => ?_⟩⟩⟩
          have he : Same HC (upd (upd (upd HC T13 (.tup [V.str "put", V.str o, V.int ((ss2.length : Int) + far)])) D13 (.lst [V.str "InvalidMove", V.int ((ss2.length : Int) + far)])) P13 (.tup [.ref T13, .ref D13])) ∧ Ent (upd (upd (upd HC T13 (.tup [V.str "put", V.str o, V.int ((ss2.length : Int) + far)])) D13 (.lst [V.str "InvalidMove", V.int ((ss2.length : Int) + far)])) P13 (.tup [.ref T13, .ref D13])) ss2 (.ref P13) := ent_mk (mv := .put o ((ss2.length : Int) + far)) (x := "InvalidMove") (v := V.int ((ss2.length : Int) + far)) hT13 hD13 hP13 (.putOut no2 ol (by omega))
          obtain ⟨es, e13⟩ := he
          have lr := lr.same es
          have gq := es _ _ gq
          have gL := es _ _ gL
          have hes := fun e h => (hes e h).same es
          clear es
          generalize (upd (upd (upd HC T13 (.tup [V.str "put", V.str o, V.int ((ss2.length : Int) + far)])) D13 (.lst [V.str "InvalidMove", V.int ((ss2.length : Int) + far)])) P13 (.tup [.ref T13, .ref D13])) = HB19 at lr gq e13 gL hes ⊢
          refine ⟨by show 1 ≤ sizeLine; decide, fun M6 hM6 => ?_⟩
          have es := new_ (o := .lst [V.ref P13]) hM6
          have lr := lr.same es
          have gq := es _ _ gq
          have e13 := e13.same es
          have gM : (upd HB19 M6 (.lst [V.ref P13])) M6 = some (.lst [V.ref P13]) := upd_same
          have hem : ∀ e ∈ [V.ref P13], Ent (upd HB19 M6 (.lst [V.ref P13])) ss2 e := one_all e13
          have gL := es _ _ gL
          have hes := fun e h => (hes e h).same es
          clear es e13
          generalize (upd HB19 M6 (.lst [V.ref P13])) = HB20 at lr gq gM hem gL hes ⊢
          refine ⟨_, _, _, _, rfl, rfl, gL, gM, Nat.le_trans (m := 14) (by rw [hel]; simp only [List.length_cons, List.length_nil]; omega) (by decide), fun W hW => ?_⟩
          have es' := new_ (o := .lst (es0 ++ [V.ref P13])) hW
          exact ⟨W, es0 ++ [V.ref P13], rfl, lr.same es', es' _ _ gq, upd_same, by rw [List.length_append, hel]; rfl, cat_all es' hes hem⟩
        rintro _ HC ⟨L, es0, rfl, lr, gq, gL, hel, hes⟩
        refine ⟨fun σ' H' => ∃ (L : Addr) (es : List V), σ' = [some (.ref a), some (.ref sa), some (.ref PL), some (.ref x), some (.int (ss2.length : Int)), some (.str nm), some (.int (0 + (i : Int))), some (.ref q), some (.int (k : Int)), some (.int c2), some (.str nm2), some (.str o), some (.int far), some (.int (pl : Int)), some (.ref L), x15, x16] ∧ LR C H' sa sl PL x dx N pool ss2 c2 (n + 1 + 1 + 1 + 1) ∧ H' q = some (.lst (tx ss2)) ∧ H' L = some (.lst es) ∧ es.length = 14 ∧ ∀ e ∈ es, Ent H' ss2 e, ?_, ?_⟩
        · refine ⟨_, rfl, _, rfl, _, rfl, by show 3 ≤ sizeLine; decide, fun T14 hT14 => ⟨_, rfl, by show 2 ≤ sizeLine; decide, fun D14 hD14 => ⟨by show 2 ≤ sizeLine; decide, fun P14 hP14 => ?_⟩⟩⟩
          have he : Same HC (upd (upd (upd HC T14 (.tup [V.str "put", V.str o, V.int (-1)])) D14 (.lst [V.str "InvalidMove", V.int (-1)])) P14 (.tup [.ref T14, .ref D14])) ∧ Ent (upd (upd (upd HC T14 (.tup [V.str "put", V.str o, V.int (-1)])) D14 (.lst [V.str "InvalidMove", V.int (-1)])) P14 (.tup [.ref T14, .ref D14])) ss2 (.ref P14) := ent_mk (mv := .put o (-1)) (x := "InvalidMove") (v := V.int (-1)) hT14 hD14 hP14 (.putOut no2 ol (by omega))
          obtain ⟨es, e14⟩ := he
          have lr := lr.same es
          have gq := es _ _ gq
          have gL := es _ _ gL
          have hes := fun e h => (hes e h).same es
          clear es
          generalize (upd (upd (upd HC T14 (.tup [V.str "put", V.str o, V.int (-1)])) D14 (.lst [V.str "InvalidMove", V.int (-1)])) P14 (.tup [.ref T14, .ref D14])) = HB21 at lr gq e14 gL hes ⊢
          refine ⟨by show 1 ≤ sizeLine; decide, fun M7 hM7 => ?_⟩
          have es := new_ (o := .lst [V.ref P14]) hM7
          have lr := lr.same es
          have gq := es _ _ gq
          have e14 := e14.same es
          have gM : (upd HB21 M7 (.lst [V.ref P14])) M7 = some (.lst [V.ref P14]) := upd_same
          have hem : ∀ e ∈ [V.ref P14], Ent (upd HB21 M7 (.lst [V.ref P14])) ss2 e := one_all e14
          have gL := es _ _ gL
          have hes := fun e h => (hes e h).same es
          clear es e14
          generalize (upd HB21 M7 (.lst [V.ref P14])) = HB22 at lr gq gM hem gL hes ⊢
          refine ⟨_, _, _, _, rfl, rfl, gL, gM, Nat.le_trans (m := 14) (by rw [hel]; simp only [List.length_cons, List.length_nil]; omega) (by decide), fun W hW => ?_⟩
          have es' := new_ (o := .lst (es0 ++ [V.ref P14])) hW
          exact ⟨W, es0 ++ [V.ref P14], rfl, lr.same es', es' _ _ gq, upd_same, by rw [List.length_append, hel]; rfl, cat_all es' hes hem⟩
        rintro _ HC ⟨L, es0, rfl, lr, gq, gL, hel, hes⟩
        refine ⟨_, rfl, _, rfl, sa, sl, L, _, _, rfl, lr.st, by omega, gL, by rw [hel]; decide, fun t ys HM ht pm ta tl' tn SM kM => ?_⟩
        have lr0 := lr
        have hel' := hel
        have lr := lr.kept SM kM
        have gq := kM _ _ qa ql gq
        have hes : ∀ e ∈ ys, Ent HM ss2 e := fun e he => (hes e (pm.mem_iff.mp he)).kept lr0.st kM
        clear lr0 gL pm
        refine ⟨t, rfl, ⟨_, SqL.of ht⟩, ?_⟩
        refine for_it (walk_l (xs := ys)) (fun i' σ' H' => ∃ (x15 x16 : Option V), σ' = [some (.ref a), some (.ref sa), some (.ref PL), some (.ref x), some (.int (ss2.length : Int)), some (.str nm), some (.int (0 + (i : Int))), some (.ref q), some (.int (k : Int)), some (.int c2), some (.str nm2), some (.str o), some (.int far), some (.int (pl : Int)), some (.ref L), x15, x16] ∧ LR C H' sa sl PL x dx N pool ss2 c2 (n + 1 + 1 + 1 + 1 + es0.length) ∧ H' q = some (.lst (tx ss2)) ∧ H' t = some (.lst ys) ∧ ∀ e ∈ ys, Ent H' ss2 e) ?_ ?_ ?_ ?_
        · exact ⟨_, _, rfl, lr, gq, ht, hes⟩
        · rintro i' _ H' _ ⟨_, _, rfl, _, _, g, _⟩
          exact SqL.of g
        · rintro i' xv _ HN H' hi' ⟨x15, x16, rfl, lr, gq, ht, hes⟩ ⟨rfl, hx⟩
          obtain ⟨P, T', D, mv, xs, v, rfl, gP, gT, gD, bad⟩ := hes xv (List.mem_of_getElem? hx)
          refine ⟨P, _, rfl, SqT.of gP, rfl, _, _, rfl, _, _, rfl, rfl, ?_⟩
          refine ⟨_, rfl, _, rfl, x, T', dx, N, ss2, c2, mv, xs, v, rfl, lr.rv, gT, bad, fun R1 H1 s1 gR => ⟨_, rfl, .ref R1, .ref D, rfl, bad.two gR (s1 _ _ gD), fun H2 s2 => ⟨_, rfl, iteF ?_⟩⟩⟩
          have lr := (lr.same s1).same s2
          have gq := s2 _ _ (s1 _ _ gq)
          refine ⟨_, rfl, x, dx, _, rfl, lr.rv.1, x, dx, N, ss2, c2, rfl, lr.rv, fun q' hq' => ?_⟩
          have eq' := new_ (o := .lst (tx ss2)) hq'
          have lrq := lr.same eq'
          refine ⟨_, rfl, .ref q', .ref q, rfl, .strs upd_same (eq' _ _ gq) (by omega), fun H3 s3 => ⟨_, rfl, iteF ?_⟩⟩
          have lr3 := lrq.same s3
          refine ⟨_, rfl, x, C, dx, _, _, rfl, lr3.rv.1, R.cl, R.nC, fR_cost _ _, _, rfl, .int c2, .int c2, rfl, .int _ _, fun H4' s4' => ⟨_, rfl, iteF ?_⟩⟩
          have sAll : ∀ b u, H' b = some u → H4' b = some u := fun b u e => s4' _ _ (s3 _ _ (eq' _ _ (s2 _ _ (s1 _ _ e))))
          exact ⟨_, _, rfl, lr3.same s4', s4' _ _ (s3 _ _ (eq' _ _ gq)), sAll _ _ ht, fun e he => (hes e he).same sAll⟩
        · rintro _ H' ⟨x15, x16, rfl, lr, _, _, _⟩
          exact ⟨ss2, c2, _, _, _, _, _, _, _, _, _, _, _, _, _, _, rfl, lr, okk, by omega⟩
      · rintro _ H' ⟨ss, c, n, x4, x5, x6, x7, x8, x9, x10, x11, x12, x13, x14, x15, x16, rfl, lr, ok, hn⟩
        exact kk _
end
end PA

set_option maxHeartbeats 8000000
namespace PA
open PySem L2 RZ
theorem kit_self {K : PySem.W.Frag} {C : Addr} : PySem.W.kitOne K (.ref C) (.ref C) = some true := by
  unfold PySem.W.kitOne
  rw [if_pos (by simp)]
theorem kit_2 {K : PySem.W.Frag} {C D : Addr} (h1 : (Value.ref D == Value.ref C) = false) (h2 : PySem.W.isClsIn K C = true) (h3 : PySem.W.typeIn K (.ref C) = some (.type "type")) (h4 : PySem.W.subIn K (.ref D) (.ref C) = some false) : PySem.W.kitOne K (.ref D) (.ref C) = some false := by
  have e2 : ((PySem.W.clsIn K C).isSome && PySem.W.typeIn K (.ref C) == some (.type "type")) = true := by
    have h2' : (PySem.W.clsIn K C).isSome = true := h2
    rw [h2', h3] <;> rfl
  unfold PySem.W.kitOne
  rw [h1, if_neg (by simp)]
  show (if ((PySem.W.clsIn K C).isSome && PySem.W.typeIn K (.ref C) == some (.type "type")) = true then PySem.W.subIn K (.ref D) (.ref C) else none) = some false
  rw [if_pos e2]
  exact h4
theorem exm_2 {K : PySem.W.Frag} {S P : Addr} (h1 : PySem.W.subIn K (.ref P) (.type "BaseException") = some true) (h2 : PySem.W.isClsIn K P = true) (h3 : PySem.W.typeIn K (.ref P) = some (.type "type")) (h4 : PySem.W.subIn K (.ref S) (.ref P) = some true) :
    PySem.W.exmOne K (.ref S) (.ref P) = some true := by
  have e2 : ((PySem.W.clsIn K P).isSome && PySem.W.typeIn K (.ref P) == some (.type "type")) = true := by
    have h2' : (PySem.W.clsIn K P).isSome = true := h2
    rw [h2', h3] <;> rfl
  unfold PySem.W.exmOne
  rw [h1, if_pos (by simp)]
  show (if ((PySem.W.clsIn K P).isSome && PySem.W.typeIn K (.ref P) == some (.type "type")) = true then PySem.W.subIn K (.ref S) (.ref P) else none) = some true
  rw [if_pos e2]
  exact h4
theorem kit_cls {K : PySem.W.Frag} {C : Addr} {t : String} (h2 : PySem.W.isClsIn K C = true) (h3 : PySem.W.typeIn K (.ref C) = some (.type "type")) (h4 : PySem.W.subIn K (.type t) (.ref C) = some false) : PySem.W.kitOne K (.type t) (.ref C) = some false := by
  have e2 : ((PySem.W.clsIn K C).isSome && PySem.W.typeIn K (.ref C) == some (.type "type")) = true := by
    have h2' : (PySem.W.clsIn K C).isSome = true := h2
    rw [h2', h3] <;> rfl
  unfold PySem.W.kitOne
  rw [if_neg (by simp)]
  show (if ((PySem.W.clsIn K C).isSome && PySem.W.typeIn K (.ref C) == some (.type "type")) = true then PySem.W.subIn K (.type t) (.ref C) else none) = some false
  rw [if_pos e2]
  exact h4
theorem exm_b {K : PySem.W.Frag} {S P : Addr} {b : Bool} (h1 : PySem.W.subIn K (.ref P) (.type "BaseException") = some true) (h2 : PySem.W.isClsIn K P = true) (h3 : PySem.W.typeIn K (.ref P) = some (.type "type")) (h4 : PySem.W.subIn K (.ref S) (.ref P) = some b) :
    PySem.W.exmOne K (.ref S) (.ref P) = some b := by
  have e2 : ((PySem.W.clsIn K P).isSome && PySem.W.typeIn K (.ref P) == some (.type "type")) = true := by
    have h2' : (PySem.W.clsIn K P).isSome = true := h2
    rw [h2', h3] <;> rfl
  unfold PySem.W.exmOne
  rw [h1, if_pos (by simp)]
  show (if ((PySem.W.clsIn K P).isSome && PySem.W.typeIn K (.ref P) == some (.type "type")) = true then PySem.W.subIn K (.ref S) (.ref P) else none) = some b
  rw [if_pos e2]
  exact h4
theorem bC2_of {K : PySem.W.Frag} {f : Addr} {fd : FuncData} (F : FunC K f fd) : Binds K fd ["self", "name", "to"] [] := by
  obtain ⟨ds, hv, hb⟩ := F.binds1 (ps := ["self", "name", "to"]) 3 1 (by simp) rfl (fun T kV doc pm an cdv ct us its h1 h2 => match us, h1, its, h2 with | [_, _, _], _, [_], _ => ⟨_, rfl, rfl⟩)
  cases hv
  exact hb
theorem all_mk {l : PySem.W.OpenLaw} {w : World} {K : PySem.W.Frag} {h : Heap} {mg : Str → Option Value} {fa C CN fCN dCN ccCN CT fCT dCT ccCT CM fCM dCM ccCM gInit pO gOrder TT gCall gExch gPut gDrop gPlace gdraw gstart gpick gmixed gsame gnames gpmv gLaw : Addr} (X_ : K.In h) (G : h.Ns mainGlobals mg) (hfa : mg "law" = some (.ref fa))
    {nmCN qCN : Str} {NCN : Addr} {bsCN bmCN : List Value} {snCN : List Str} {subCN : List Value} {abCN : Bool} {colCN : Option Bool} {ddCN : Option Addr} {k0CN k1CN k2CN k3CN k5CN : Option Value} {ocCN kVCN dcCN pmCN ctCN clCN cclCN : Value} {odCN anCN cldCN cddCN : Option Addr} {oslCN cslCN ccsCN : Array (Option Value)} {vsCN : Array Value} {fileCN : Str} {tfCN : Tok} {nmCT qCT : Str} {NCT : Addr} {bsCT bmCT : List Value} {snCT : List Str} {subCT : List Value} {abCT : Bool} {colCT : Option Bool} {ddCT : Option Addr} {k0CT k1CT k2CT k3CT k5CT : Option Value} {ocCT kVCT dcCT pmCT ctCT clCT cclCT : Value} {odCT anCT cldCT cddCT : Option Addr} {oslCT cslCT ccsCT : Array (Option Value)} {vsCT : Array Value} {fileCT : Str} {tfCT : Tok} {nmCM qCM : Str} {NCM : Addr} {bsCM bmCM : List Value} {snCM : List Str} {subCM : List Value} {abCM : Bool} {colCM : Option Bool} {ddCM : Option Addr} {k0CM k1CM k2CM k3CM k5CM : Option Value} {ocCM kVCM dcCM pmCM ctCM clCM cclCM : Value} {odCM anCM cldCM cddCM : Option Addr} {oslCM cslCM ccsCM : Array (Option Value)} {vsCM : Array Value} {fileCM : Str} {tfCM : Tok} {ocInit kVInit dcInit pmInit cdInit ctInit : Value} {odInit anInit : Option Addr} {slInit : Array (Option Value)} {restO : List Value} {ocOrder kVOrder dcOrder pmOrder cdOrder ctOrder : Value} {odOrder anOrder : Option Addr} {slOrder : Array (Option Value)} {oT : Value} {odT : Option Addr} {mT : Nat} {slT : Array (Option Value)} {ocCall kVCall dcCall pmCall cdCall ctCall : Value} {odCall anCall : Option Addr} {slCall : Array (Option Value)} {ocExch kVExch dcExch pmExch cdExch ctExch : Value} {odExch anExch : Option Addr} {slExch : Array (Option Value)} {ocPut kVPut dcPut pmPut cdPut ctPut : Value} {odPut anPut : Option Addr} {slPut : Array (Option Value)} {ocDrop kVDrop dcDrop pmDrop cdDrop ctDrop : Value} {odDrop anDrop : Option Addr} {slDrop : Array (Option Value)} {ocPlace kVPlace dcPlace pmPlace cdPlace ctPlace : Value} {odPlace anPlace : Option Addr} {slPlace : Array (Option Value)} {ocdraw kVdraw dcdraw pmdraw cddraw ctdraw : Value} {oddraw andraw : Option Addr} {sldraw : Array (Option Value)} {ocstart kVstart dcstart pmstart cdstart ctstart : Value} {odstart anstart : Option Addr} {slstart : Array (Option Value)} {ocpick kVpick dcpick pmpick cdpick ctpick : Value} {odpick anpick : Option Addr} {slpick : Array (Option Value)} {ocmixed kVmixed dcmixed pmmixed cdmixed ctmixed : Value} {odmixed anmixed : Option Addr} {slmixed : Array (Option Value)} {ocsame kVsame dcsame pmsame cdsame ctsame : Value} {odsame ansame : Option Addr} {slsame : Array (Option Value)} {ocnames kVnames dcnames pmnames cdnames ctnames : Value} {odnames annames : Option Addr} {slnames : Array (Option Value)} {ocpmv kVpmv dcpmv pmpmv cdpmv ctpmv : Value} {odpmv anpmv : Option Addr} {slpmv : Array (Option Value)} {ocLaw kVLaw dcLaw pmLaw cdLaw ctLaw : Value} {odLaw anLaw : Option Addr} {slLaw : Array (Option Value)}
    (aC : PySem.W.nsIn K mainGlobals "Rival" = some (some (.ref C)))
    (pgC : PySem.W.plainGet K C Str.empty = true)
    (hdC : PySem.W.hasDictIn K C = true)
    (poC : PySem.W.plainOver K C = true)
    (saC : PySem.W.findIn K (.ref C) "__setattr__" = some (some (.builtin "object.__setattr__")))
    (kcC : PySem.W.keepIn K (.ref C) = true)
    (mkC : PySem.W.makesIn K C = true)
    (nCnames : PySem.W.findIn K (.ref C) "names" = some none)
    (nCcost : PySem.W.findIn K (.ref C) "cost" = some none)
    (zisinstance : PySem.W.nsIn K mainGlobals "isinstance" = some none)
    (zint : PySem.W.nsIn K mainGlobals "int" = some none)
    (zbool : PySem.W.nsIn K mainGlobals "bool" = some none)
    (zlist : PySem.W.nsIn K mainGlobals "list" = some none)
    (ztuple : PySem.W.nsIn K mainGlobals "tuple" = some none)
    (zlen : PySem.W.nsIn K mainGlobals "len" = some none)
    (zall : PySem.W.nsIn K mainGlobals "all" = some none)
    (zzip : PySem.W.nsIn K mainGlobals "zip" = some none)
    (zrange : PySem.W.nsIn K mainGlobals "range" = some none)
    (zsuper : PySem.W.nsIn K mainGlobals "super" = some none)
    (tpS : (l.prog.main.scope.names.lookup ("super" : Str)).isSome = false)
    (staS : PySem.W.nsIn K PySem.cStatics "thirdparty.any" = some none)
    (aCN : PySem.W.nsIn K mainGlobals "NoCase" = some (some (.ref CN)))
    (lxCN : K.lookup CN = some (excClassObj nmCN qCN CN NCN bsCN bmCN true snCN subCN abCN colCN ddCN k0CN k1CN k2CN k3CN k5CN "ValueError.__new__"))
    (rvCN : PySem.HandSPX.refsVE bmCN = true)
    (saCN : PySem.W.findIn K (.ref CN) "__setattr__" = some (some (.builtin "object.__setattr__")))
    (xbCN : PySem.W.subIn K (.ref CN) (.type "BaseException") = some true)
    (tyCN : PySem.W.typeIn K (.ref CN) = some (.type "type"))
    (kpCN : PySem.W.keepIn K (.ref CN) = true)
    (iCCN : PySem.W.findIn K (.ref CN) "__init__" = some (some (.ref fCN)))
    (tICN : PySem.W.typeIn K (.ref fCN) = some (.type "function"))
    (lfCN : K.lookup fCN = some ⟨ocCN, odCN, .func (PySem.W.ksFn "__init__" "NoCase.__init__" (defArgs sENo) (defBody sENo) (defScope sENo) .none kVCN dcCN pmCN anCN (.ref dCN) ctCN ccCN), oslCN⟩)
    (cdCN : PySem.W.codeIn K (.ref dCN) "NoCase.__init__" = true)
    (lcCN : K.lookup ccCN = some ⟨clCN, cldCN, .cell (some (.ref CN)), cslCN⟩)
    (suCN : PySem.W.ks_superIn K CN CN "__init__" = some (some (.builtin "ValueError.__init__")))
    (msCN : PySem.W.mroIn K CN (.ref CN) = some true)
    (mvCN : PySem.W.mroIn K CN (.type "ValueError") = some true)
    (ldCN : K.lookup dCN = some ⟨cclCN, cddCN, .fields vsCN, ccsCN⟩)
    (v2CN : vsCN[2]? = some (.str fileCN tfCN))
    (fiCN : ((l.prog.main.file : Str) == fileCN) = true)
    (noCN : PySem.W.findIn K (.ref CN) "name" = some none)
    (gaCN : PySem.W.findIn K (.ref CN) "__getattribute__" = some (some (.builtin "BaseException.__getattribute__")))
    (ggCN : PySem.W.findIn K (.ref CN) "__getattr__" = some none)
    (hdCN : PySem.W.hasDictIn K CN = true)
    (isCN : PySem.W.isClsIn K CN = true)
    (aCT : PySem.W.nsIn K mainGlobals "CaseThere" = some (some (.ref CT)))
    (lxCT : K.lookup CT = some (excClassObj nmCT qCT CT NCT bsCT bmCT true snCT subCT abCT colCT ddCT k0CT k1CT k2CT k3CT k5CT "ValueError.__new__"))
    (rvCT : PySem.HandSPX.refsVE bmCT = true)
    (saCT : PySem.W.findIn K (.ref CT) "__setattr__" = some (some (.builtin "object.__setattr__")))
    (xbCT : PySem.W.subIn K (.ref CT) (.type "BaseException") = some true)
    (tyCT : PySem.W.typeIn K (.ref CT) = some (.type "type"))
    (kpCT : PySem.W.keepIn K (.ref CT) = true)
    (iCCT : PySem.W.findIn K (.ref CT) "__init__" = some (some (.ref fCT)))
    (tICT : PySem.W.typeIn K (.ref fCT) = some (.type "function"))
    (lfCT : K.lookup fCT = some ⟨ocCT, odCT, .func (PySem.W.ksFn "__init__" "CaseThere.__init__" (defArgs sEThere) (defBody sEThere) (defScope sEThere) .none kVCT dcCT pmCT anCT (.ref dCT) ctCT ccCT), oslCT⟩)
    (cdCT : PySem.W.codeIn K (.ref dCT) "CaseThere.__init__" = true)
    (lcCT : K.lookup ccCT = some ⟨clCT, cldCT, .cell (some (.ref CT)), cslCT⟩)
    (suCT : PySem.W.ks_superIn K CT CT "__init__" = some (some (.builtin "ValueError.__init__")))
    (msCT : PySem.W.mroIn K CT (.ref CT) = some true)
    (mvCT : PySem.W.mroIn K CT (.type "ValueError") = some true)
    (ldCT : K.lookup dCT = some ⟨cclCT, cddCT, .fields vsCT, ccsCT⟩)
    (v2CT : vsCT[2]? = some (.str fileCT tfCT))
    (fiCT : ((l.prog.main.file : Str) == fileCT) = true)
    (noCT : PySem.W.findIn K (.ref CT) "name" = some none)
    (gaCT : PySem.W.findIn K (.ref CT) "__getattribute__" = some (some (.builtin "BaseException.__getattribute__")))
    (ggCT : PySem.W.findIn K (.ref CT) "__getattr__" = some none)
    (hdCT : PySem.W.hasDictIn K CT = true)
    (isCT : PySem.W.isClsIn K CT = true)
    (aCM : PySem.W.nsIn K mainGlobals "InvalidMove" = some (some (.ref CM)))
    (lxCM : K.lookup CM = some (excClassObj nmCM qCM CM NCM bsCM bmCM true snCM subCM abCM colCM ddCM k0CM k1CM k2CM k3CM k5CM "ValueError.__new__"))
    (rvCM : PySem.HandSPX.refsVE bmCM = true)
    (saCM : PySem.W.findIn K (.ref CM) "__setattr__" = some (some (.builtin "object.__setattr__")))
    (xbCM : PySem.W.subIn K (.ref CM) (.type "BaseException") = some true)
    (tyCM : PySem.W.typeIn K (.ref CM) = some (.type "type"))
    (kpCM : PySem.W.keepIn K (.ref CM) = true)
    (iCCM : PySem.W.findIn K (.ref CM) "__init__" = some (some (.ref fCM)))
    (tICM : PySem.W.typeIn K (.ref fCM) = some (.type "function"))
    (lfCM : K.lookup fCM = some ⟨ocCM, odCM, .func (PySem.W.ksFn "__init__" "InvalidMove.__init__" (defArgs sEMove) (defBody sEMove) (defScope sEMove) .none kVCM dcCM pmCM anCM (.ref dCM) ctCM ccCM), oslCM⟩)
    (cdCM : PySem.W.codeIn K (.ref dCM) "InvalidMove.__init__" = true)
    (lcCM : K.lookup ccCM = some ⟨clCM, cldCM, .cell (some (.ref CM)), cslCM⟩)
    (suCM : PySem.W.ks_superIn K CM CM "__init__" = some (some (.builtin "ValueError.__init__")))
    (msCM : PySem.W.mroIn K CM (.ref CM) = some true)
    (mvCM : PySem.W.mroIn K CM (.type "ValueError") = some true)
    (ldCM : K.lookup dCM = some ⟨cclCM, cddCM, .fields vsCM, ccsCM⟩)
    (v2CM : vsCM[2]? = some (.str fileCM tfCM))
    (fiCM : ((l.prog.main.file : Str) == fileCM) = true)
    (noCM : PySem.W.findIn K (.ref CM) "place" = some none)
    (gaCM : PySem.W.findIn K (.ref CM) "__getattribute__" = some (some (.builtin "BaseException.__getattribute__")))
    (ggCM : PySem.W.findIn K (.ref CM) "__getattr__" = some none)
    (hdCM : PySem.W.hasDictIn K CM = true)
    (isCM : PySem.W.isClsIn K CM = true)
    (sCNCN : PySem.W.subIn K (.ref CN) (.ref CN) = some true)
    (sCNCT : PySem.W.subIn K (.ref CN) (.ref CT) = some false)
    (sCNCM : PySem.W.subIn K (.ref CN) (.ref CM) = some false)
    (sCTCN : PySem.W.subIn K (.ref CT) (.ref CN) = some false)
    (sCTCT : PySem.W.subIn K (.ref CT) (.ref CT) = some true)
    (sCTCM : PySem.W.subIn K (.ref CT) (.ref CM) = some false)
    (sCMCN : PySem.W.subIn K (.ref CM) (.ref CN) = some false)
    (sCMCT : PySem.W.subIn K (.ref CM) (.ref CT) = some false)
    (sCMCM : PySem.W.subIn K (.ref CM) (.ref CM) = some true)
    (aInit : PySem.W.findIn K (.ref C) "__init__" = some (some (.ref gInit)))
    (lInit : K.lookup gInit = some ⟨ocInit, odInit, .func (PySem.W.fnOf "__init__" "Rival.__init__" (defArgs sInit) (defBody sInit) (defScope sInit) .none kVInit dcInit pmInit anInit cdInit ctInit), slInit⟩)
    (cInit : PySem.W.codeIn K cdInit "Rival.__init__" = true)
    (kInit : PySem.W.keepIn K (.ref gInit) = true)
    (iInit : PySem.W.isFn K (.ref gInit) = true)
    (ap : PySem.W.findIn K (.ref C) "order" = some (some (.ref pO)))
    (gp : PySem.W.specialIn K (.ref pO) "__get__" = some (some (.builtin "property.__get__")))
    (tp : PySem.W.takesIn K (.ref pO) = some true)
    (aOrder : PySem.W.recIn K pO "property" = some (.ref gOrder :: restO))
    (lOrder : K.lookup gOrder = some ⟨ocOrder, odOrder, .func (PySem.W.fnOf "order" "Rival.order" (defArgs sOrder) (defBody sOrder) (defScope sOrder) .none kVOrder dcOrder pmOrder anOrder cdOrder ctOrder), slOrder⟩)
    (cOrder : PySem.W.codeIn K cdOrder "Rival.order" = true)
    (kOrder : PySem.W.keepIn K (.ref gOrder) = true)
    (aCall : PySem.W.findIn K (.ref C) "call" = some (some (.ref gCall)))
    (lCall : K.lookup gCall = some ⟨ocCall, odCall, .func (PySem.W.fnOf "call" "Rival.call" (defArgs sCall) (defBody sCall) (defScope sCall) (.ref TT) kVCall dcCall pmCall anCall cdCall ctCall), slCall⟩)
    (cCall : PySem.W.codeIn K cdCall "Rival.call" = true)
    (kCall : PySem.W.keepIn K (.ref gCall) = true)
    (iCall : PySem.W.isFn K (.ref gCall) = true)
    (lT : K.lookup TT = some ⟨oT, odT, .seq #[.none] mT, slT⟩)
    (aExch : PySem.W.findIn K (.ref C) "exchange" = some (some (.ref gExch)))
    (lExch : K.lookup gExch = some ⟨ocExch, odExch, .func (PySem.W.fnOf "exchange" "Rival.exchange" (defArgs sExch) (defBody sExch) (defScope sExch) .none kVExch dcExch pmExch anExch cdExch ctExch), slExch⟩)
    (cExch : PySem.W.codeIn K cdExch "Rival.exchange" = true)
    (kExch : PySem.W.keepIn K (.ref gExch) = true)
    (iExch : PySem.W.isFn K (.ref gExch) = true)
    (aPut : PySem.W.findIn K (.ref C) "put" = some (some (.ref gPut)))
    (lPut : K.lookup gPut = some ⟨ocPut, odPut, .func (PySem.W.fnOf "put" "Rival.put" (defArgs sPut) (defBody sPut) (defScope sPut) .none kVPut dcPut pmPut anPut cdPut ctPut), slPut⟩)
    (cPut : PySem.W.codeIn K cdPut "Rival.put" = true)
    (kPut : PySem.W.keepIn K (.ref gPut) = true)
    (iPut : PySem.W.isFn K (.ref gPut) = true)
    (aDrop : PySem.W.findIn K (.ref C) "drop" = some (some (.ref gDrop)))
    (lDrop : K.lookup gDrop = some ⟨ocDrop, odDrop, .func (PySem.W.fnOf "drop" "Rival.drop" (defArgs sDrop) (defBody sDrop) (defScope sDrop) .none kVDrop dcDrop pmDrop anDrop cdDrop ctDrop), slDrop⟩)
    (cDrop : PySem.W.codeIn K cdDrop "Rival.drop" = true)
    (kDrop : PySem.W.keepIn K (.ref gDrop) = true)
    (iDrop : PySem.W.isFn K (.ref gDrop) = true)
    (aPlace : PySem.W.findIn K (.ref C) "_place" = some (some (.ref gPlace)))
    (lPlace : K.lookup gPlace = some ⟨ocPlace, odPlace, .func (PySem.W.fnOf "_place" "Rival._place" (defArgs sPlace) (defBody sPlace) (defScope sPlace) .none kVPlace dcPlace pmPlace anPlace cdPlace ctPlace), slPlace⟩)
    (cPlace : PySem.W.codeIn K cdPlace "Rival._place" = true)
    (kPlace : PySem.W.keepIn K (.ref gPlace) = true)
    (iPlace : PySem.W.isFn K (.ref gPlace) = true)
    (adraw : PySem.W.nsIn K mainGlobals "_law_draw" = some (some (.ref gdraw)))
    (ldraw : K.lookup gdraw = some ⟨ocdraw, oddraw, .func (PySem.W.fnOf "_law_draw" "_law_draw" (defArgs sDraw) (defBody sDraw) (defScope sDraw) .none kVdraw dcdraw pmdraw andraw cddraw ctdraw), sldraw⟩)
    (cdraw : PySem.W.codeIn K cddraw "_law_draw" = true)
    (kdraw : PySem.W.keepIn K (.ref gdraw) = true)
    (astart : PySem.W.nsIn K mainGlobals "_law_start" = some (some (.ref gstart)))
    (lstart : K.lookup gstart = some ⟨ocstart, odstart, .func (PySem.W.fnOf "_law_start" "_law_start" (defArgs sStart) (defBody sStart) (defScope sStart) .none kVstart dcstart pmstart anstart cdstart ctstart), slstart⟩)
    (cstart : PySem.W.codeIn K cdstart "_law_start" = true)
    (kstart : PySem.W.keepIn K (.ref gstart) = true)
    (apick : PySem.W.nsIn K mainGlobals "_law_pick" = some (some (.ref gpick)))
    (lpick : K.lookup gpick = some ⟨ocpick, odpick, .func (PySem.W.fnOf "_law_pick" "_law_pick" (defArgs sPick) (defBody sPick) (defScope sPick) .none kVpick dcpick pmpick anpick cdpick ctpick), slpick⟩)
    (cpick : PySem.W.codeIn K cdpick "_law_pick" = true)
    (kpick : PySem.W.keepIn K (.ref gpick) = true)
    (amixed : PySem.W.nsIn K mainGlobals "_law_mixed" = some (some (.ref gmixed)))
    (lmixed : K.lookup gmixed = some ⟨ocmixed, odmixed, .func (PySem.W.fnOf "_law_mixed" "_law_mixed" (defArgs sMixed) (defBody sMixed) (defScope sMixed) .none kVmixed dcmixed pmmixed anmixed cdmixed ctmixed), slmixed⟩)
    (cmixed : PySem.W.codeIn K cdmixed "_law_mixed" = true)
    (kmixed : PySem.W.keepIn K (.ref gmixed) = true)
    (asame : PySem.W.nsIn K mainGlobals "_law_same" = some (some (.ref gsame)))
    (lsame : K.lookup gsame = some ⟨ocsame, odsame, .func (PySem.W.fnOf "_law_same" "_law_same" (defArgs sSame) (defBody sSame) (defScope sSame) .none kVsame dcsame pmsame ansame cdsame ctsame), slsame⟩)
    (csame : PySem.W.codeIn K cdsame "_law_same" = true)
    (ksame : PySem.W.keepIn K (.ref gsame) = true)
    (anames : PySem.W.nsIn K mainGlobals "_law_p_names" = some (some (.ref gnames)))
    (lnames : K.lookup gnames = some ⟨ocnames, odnames, .func (PySem.W.fnOf "_law_p_names" "_law_p_names" (defArgs sNames) (defBody sNames) (defScope sNames) .none kVnames dcnames pmnames annames cdnames ctnames), slnames⟩)
    (cnames : PySem.W.codeIn K cdnames "_law_p_names" = true)
    (knames : PySem.W.keepIn K (.ref gnames) = true)
    (apmv : PySem.W.nsIn K mainGlobals "_law_p_move" = some (some (.ref gpmv)))
    (lpmv : K.lookup gpmv = some ⟨ocpmv, odpmv, .func (PySem.W.fnOf "_law_p_move" "_law_p_move" (defArgs sPMove) (defBody sPMove) (defScope sPMove) .none kVpmv dcpmv pmpmv anpmv cdpmv ctpmv), slpmv⟩)
    (cpmv : PySem.W.codeIn K cdpmv "_law_p_move" = true)
    (kpmv : PySem.W.keepIn K (.ref gpmv) = true)
    (aLaw : PySem.W.nsIn K mainGlobals "law" = some (some (.ref gLaw)))
    (lLaw : K.lookup gLaw = some ⟨ocLaw, odLaw, .func (PySem.W.fnOf "law" "law" (defArgs sLaw) (defBody sLaw) (defScope sLaw) .none kVLaw dcLaw pmLaw anLaw cdLaw ctLaw), slLaw⟩)
    (cLaw : PySem.W.codeIn K cdLaw "law" = true)
    (kLaw : PySem.W.keepIn K (.ref gLaw) = true) :
    ∃ fd : FuncData, (∀ (s : Shared) (v : Value), BindsTo s fd ⟨[v], []⟩ [("_law_script", v)]) ∧ ∀ base : Heap, K.In base → base.Ns mainGlobals mg → FnOk l.prog w K mg base CX0 7 fa fd ["_law_script"] (spLaw K) := by
  have e := hfa.symm.trans (PySem.W.mg_of X_ G aLaw)
  cases e
  have oxCN : OexC K CN := ⟨⟨_, _, _, _, _, _, _, _, _, _, _, _, _, _, _, lxCN, rvCN⟩, saCN, xbCN, tyCN, kpCN⟩
  have biCN : Binds K (PySem.W.ksFn "__init__" "NoCase.__init__" (defArgs sENo) (defBody sENo) (defScope sENo) .none kVCN dcCN pmCN anCN (.ref dCN) ctCN ccCN) ["self", "name"] [] := .all fun us hl => match us, hl with | [_, _], _ => rfl
  have erCN : ErrR K mg "NoCase" "name" CN fCN (PySem.W.ksFn "__init__" "NoCase.__init__" (defArgs sENo) (defBody sENo) (defScope sENo) .none kVCN dcCN pmCN anCN (.ref dCN) ctCN ccCN) := ⟨oxCN, iCCN, tICN, PySem.W.mg_of X_ G aCN, biCN⟩
  have sfCN : SFn K "__init__" "NoCase.__init__" sENo CN dCN fCN (PySem.W.ksFn "__init__" "NoCase.__init__" (defArgs sENo) (defBody sENo) (defScope sENo) .none kVCN dcCN pmCN anCN (.ref dCN) ctCN ccCN) := ⟨_, _, _, _, _, _, _, _, _, _, _, _, rfl, lfCN, cdCN, lcCN⟩
  have scCN : SupC l.prog K mg CN dCN := ⟨oxCN, suCN, msCN, mvCN, staS, PySem.W.mg_none_of X_ G zsuper, ⟨_, _, _, _, _, _, ldCN, v2CN, fiCN⟩, tpS⟩
  have oxCT : OexC K CT := ⟨⟨_, _, _, _, _, _, _, _, _, _, _, _, _, _, _, lxCT, rvCT⟩, saCT, xbCT, tyCT, kpCT⟩
  have biCT : Binds K (PySem.W.ksFn "__init__" "CaseThere.__init__" (defArgs sEThere) (defBody sEThere) (defScope sEThere) .none kVCT dcCT pmCT anCT (.ref dCT) ctCT ccCT) ["self", "name"] [] := .all fun us hl => match us, hl with | [_, _], _ => rfl
  have erCT : ErrR K mg "CaseThere" "name" CT fCT (PySem.W.ksFn "__init__" "CaseThere.__init__" (defArgs sEThere) (defBody sEThere) (defScope sEThere) .none kVCT dcCT pmCT anCT (.ref dCT) ctCT ccCT) := ⟨oxCT, iCCT, tICT, PySem.W.mg_of X_ G aCT, biCT⟩
  have sfCT : SFn K "__init__" "CaseThere.__init__" sEThere CT dCT fCT (PySem.W.ksFn "__init__" "CaseThere.__init__" (defArgs sEThere) (defBody sEThere) (defScope sEThere) .none kVCT dcCT pmCT anCT (.ref dCT) ctCT ccCT) := ⟨_, _, _, _, _, _, _, _, _, _, _, _, rfl, lfCT, cdCT, lcCT⟩
  have scCT : SupC l.prog K mg CT dCT := ⟨oxCT, suCT, msCT, mvCT, staS, PySem.W.mg_none_of X_ G zsuper, ⟨_, _, _, _, _, _, ldCT, v2CT, fiCT⟩, tpS⟩
  have oxCM : OexC K CM := ⟨⟨_, _, _, _, _, _, _, _, _, _, _, _, _, _, _, lxCM, rvCM⟩, saCM, xbCM, tyCM, kpCM⟩
  have biCM : Binds K (PySem.W.ksFn "__init__" "InvalidMove.__init__" (defArgs sEMove) (defBody sEMove) (defScope sEMove) .none kVCM dcCM pmCM anCM (.ref dCM) ctCM ccCM) ["self", "place"] [] := .all fun us hl => match us, hl with | [_, _], _ => rfl
  have erCM : ErrR K mg "InvalidMove" "place" CM fCM (PySem.W.ksFn "__init__" "InvalidMove.__init__" (defArgs sEMove) (defBody sEMove) (defScope sEMove) .none kVCM dcCM pmCM anCM (.ref dCM) ctCM ccCM) := ⟨oxCM, iCCM, tICM, PySem.W.mg_of X_ G aCM, biCM⟩
  have sfCM : SFn K "__init__" "InvalidMove.__init__" sEMove CM dCM fCM (PySem.W.ksFn "__init__" "InvalidMove.__init__" (defArgs sEMove) (defBody sEMove) (defScope sEMove) .none kVCM dcCM pmCM anCM (.ref dCM) ctCM ccCM) := ⟨_, _, _, _, _, _, _, _, _, _, _, _, rfl, lfCM, cdCM, lcCM⟩
  have scCM : SupC l.prog K mg CM dCM := ⟨oxCM, suCM, msCM, mvCM, staS, PySem.W.mg_none_of X_ G zsuper, ⟨_, _, _, _, _, _, ldCM, v2CM, fiCM⟩, tpS⟩
  have FInit := fun_mk (st := sInit) lInit cInit kInit
  have bInit := FInit.binds (ps := ["self", "names"]) fun _ _ _ _ _ _ us hl => match us, hl with | [_, _], _ => rfl
  have FOrder := fun_mk (st := sOrder) lOrder cOrder kOrder
  have bOrder := FOrder.binds (ps := ["self"]) fun _ _ _ _ _ _ us hl => match us, hl with | [_], _ => rfl
  have FCall : FunC K gCall (PySem.W.fnOf "call" "Rival.call" (defArgs sCall) (defBody sCall) (defScope sCall) (.ref TT) kVCall dcCall pmCall anCall cdCall ctCall) := ⟨⟨_, _, _, _, _, _, _, _, _, _, rfl, lCall, cCall, .inr ⟨by simp, TT, _, [.none], mT, rfl, lT, rfl, .cons rfl .nil⟩, .inl rfl⟩, kCall⟩
  have FExch := fun_mk (st := sExch) lExch cExch kExch
  have bExch := FExch.binds (ps := ["self", "at"]) fun _ _ _ _ _ _ us hl => match us, hl with | [_, _], _ => rfl
  have FPut := fun_mk (st := sPut) lPut cPut kPut
  have bPut := FPut.binds (ps := ["self", "name", "at"]) fun _ _ _ _ _ _ us hl => match us, hl with | [_, _, _], _ => rfl
  have FDrop := fun_mk (st := sDrop) lDrop cDrop kDrop
  have bDrop := FDrop.binds (ps := ["self", "name"]) fun _ _ _ _ _ _ us hl => match us, hl with | [_, _], _ => rfl
  have FPlace := fun_mk (st := sPlace) lPlace cPlace kPlace
  have bPlace := FPlace.binds (ps := ["self", "name"]) fun _ _ _ _ _ _ us hl => match us, hl with | [_, _], _ => rfl
  have Fdraw := fun_mk (st := sDraw) ldraw cdraw kdraw
  have bdraw := Fdraw.binds (ps := ["_law_stream", "_law_many"]) fun _ _ _ _ _ _ us hl => match us, hl with | [_, _], _ => rfl
  have Fstart := fun_mk (st := sStart) lstart cstart kstart
  have bstart := Fstart.binds (ps := ["_law_script"]) fun _ _ _ _ _ _ us hl => match us, hl with | [_], _ => rfl
  have Fpick := fun_mk (st := sPick) lpick cpick kpick
  have bpick := Fpick.binds (ps := ["_law_stream", "_law_some"]) fun _ _ _ _ _ _ us hl => match us, hl with | [_, _], _ => rfl
  have Fmixed := fun_mk (st := sMixed) lmixed cmixed kmixed
  have bmixed := Fmixed.binds (ps := ["_law_stream", "_law_some"]) fun _ _ _ _ _ _ us hl => match us, hl with | [_, _], _ => rfl
  have Fsame := fun_mk (st := sSame) lsame csame ksame
  have bsame := Fsame.binds (ps := ["_law_found", "_law_due"]) fun _ _ _ _ _ _ us hl => match us, hl with | [_, _], _ => rfl
  have Fnames := fun_mk (st := sNames) lnames cnames knames
  have bnames := Fnames.binds (ps := ["_law_stream", "_law_many"]) fun _ _ _ _ _ _ us hl => match us, hl with | [_, _], _ => rfl
  have Fpmv := fun_mk (st := sPMove) lpmv cpmv kpmv
  have bpmv := Fpmv.binds (ps := ["_law_rival", "_law_move"]) fun _ _ _ _ _ _ us hl => match us, hl with | [_, _], _ => rfl
  have PR : Prog K l.prog mg C CN CT CM gInit gOrder pO gCall gExch gPut gDrop gPlace gdraw gstart gpick gmixed gsame gnames gpmv (PySem.W.fnOf "__init__" "Rival.__init__" (defArgs sInit) (defBody sInit) (defScope sInit) .none kVInit dcInit pmInit anInit cdInit ctInit) (PySem.W.fnOf "order" "Rival.order" (defArgs sOrder) (defBody sOrder) (defScope sOrder) .none kVOrder dcOrder pmOrder anOrder cdOrder ctOrder) (PySem.W.fnOf "call" "Rival.call" (defArgs sCall) (defBody sCall) (defScope sCall) (.ref TT) kVCall dcCall pmCall anCall cdCall ctCall) (PySem.W.fnOf "exchange" "Rival.exchange" (defArgs sExch) (defBody sExch) (defScope sExch) .none kVExch dcExch pmExch anExch cdExch ctExch) (PySem.W.fnOf "put" "Rival.put" (defArgs sPut) (defBody sPut) (defScope sPut) .none kVPut dcPut pmPut anPut cdPut ctPut) (PySem.W.fnOf "drop" "Rival.drop" (defArgs sDrop) (defBody sDrop) (defScope sDrop) .none kVDrop dcDrop pmDrop anDrop cdDrop ctDrop) (PySem.W.fnOf "_place" "Rival._place" (defArgs sPlace) (defBody sPlace) (defScope sPlace) .none kVPlace dcPlace pmPlace anPlace cdPlace ctPlace) (PySem.W.fnOf "_law_draw" "_law_draw" (defArgs sDraw) (defBody sDraw) (defScope sDraw) .none kVdraw dcdraw pmdraw andraw cddraw ctdraw) (PySem.W.fnOf "_law_start" "_law_start" (defArgs sStart) (defBody sStart) (defScope sStart) .none kVstart dcstart pmstart anstart cdstart ctstart) (PySem.W.fnOf "_law_pick" "_law_pick" (defArgs sPick) (defBody sPick) (defScope sPick) .none kVpick dcpick pmpick anpick cdpick ctpick) (PySem.W.fnOf "_law_mixed" "_law_mixed" (defArgs sMixed) (defBody sMixed) (defScope sMixed) .none kVmixed dcmixed pmmixed anmixed cdmixed ctmixed) (PySem.W.fnOf "_law_same" "_law_same" (defArgs sSame) (defBody sSame) (defScope sSame) .none kVsame dcsame pmsame ansame cdsame ctsame) (PySem.W.fnOf "_law_p_names" "_law_p_names" (defArgs sNames) (defBody sNames) (defScope sNames) .none kVnames dcnames pmnames annames cdnames ctnames) (PySem.W.fnOf "_law_p_move" "_law_p_move" (defArgs sPMove) (defBody sPMove) (defScope sPMove) .none kVpmv dcpmv pmpmv anpmv cdpmv ctpmv) := ⟨⟨PySem.W.mg_none_of X_ G zisinstance, PySem.W.mg_none_of X_ G zint, PySem.W.mg_none_of X_ G zbool, PySem.W.mg_none_of X_ G zlist, PySem.W.mg_none_of X_ G ztuple, PySem.W.mg_none_of X_ G zlen, PySem.W.mg_none_of X_ G zall, PySem.W.mg_none_of X_ G zzip, PySem.W.mg_none_of X_ G zrange⟩, ⟨⟨pgC, hdC, poC, saC⟩, nCnames, nCcost⟩, PySem.W.mg_of X_ G aC, ⟨⟨_, _, _, erCN, sfCN, scCN, noCN⟩, ⟨_, _, _, erCT, sfCT, scCT, noCT⟩, ⟨_, _, _, erCM, sfCM, scCM, noCM⟩⟩, ⟨⟨gaCN, ggCN, xbCN, hdCN⟩, ⟨gaCT, ggCT, xbCT, hdCT⟩, ⟨gaCM, ggCM, xbCM, hdCM⟩, exm_b xbCN isCN tyCN sCNCN, exm_b xbCN isCN tyCN sCTCN, exm_b xbCT isCT tyCT sCTCT, exm_b xbCN isCN tyCN sCMCN, exm_b xbCT isCT tyCT sCMCT, exm_b xbCM isCM tyCM sCMCM⟩, FInit, bInit, ⟨mkC, aInit, iInit, kcC⟩, FOrder, bOrder, ⟨ap, gp, tp, ⟨_, aOrder⟩⟩, FCall, bC2_of FCall, ⟨aCall, iCall, kCall⟩, FExch, bExch, ⟨aExch, iExch, kExch⟩, FPut, bPut, ⟨aPut, iPut, kPut⟩, FDrop, bDrop, ⟨aDrop, iDrop, kDrop⟩, FPlace, bPlace, ⟨aPlace, iPlace, kPlace⟩, ⟨Fdraw, bdraw, PySem.W.mg_of X_ G adraw⟩, ⟨Fstart, bstart, PySem.W.mg_of X_ G astart⟩, ⟨Fpick, bpick, PySem.W.mg_of X_ G apick⟩, ⟨Fmixed, bmixed, PySem.W.mg_of X_ G amixed⟩, ⟨Fsame, bsame, PySem.W.mg_of X_ G asame⟩, ⟨Fnames, bnames, PySem.W.mg_of X_ G anames⟩, ⟨Fpmv, bpmv, PySem.W.mg_of X_ G apmv⟩⟩
  exact ⟨PySem.W.fnOf "law" "law" (defArgs sLaw) (defBody sLaw) (defScope sLaw) .none kVLaw dcLaw pmLaw anLaw cdLaw ctLaw, fun s v => .of_eq rfl, fun base _ _ => ok_law (fun_mk (st := sLaw) lLaw cLaw kLaw) PR⟩
theorem walk_ {l : PySem.W.OpenLaw} {q : Program} {loose : List Str} {XP : (Str → Option Value) → Heap → Prop} {YP : World → Heap → Prop} {d : DefRec} {K : Params → PySem.W.Frag} (hn : l.most = some 63) (hdf : d.params.defaults = [])
    (hY : ∀ (w : World) (h : Heap), YP w h → (K w.params).In h)
    (F : ∀ (w : World) (mg : Str → Option Value) (fa : Addr) (h : Heap), (K w.params).In h → h.Ns mainGlobals mg → mg d.name = some (.ref fa) →
      ∃ fd : FuncData, (∀ (s : Shared) (u : Value), BindsTo s fd ⟨[u], []⟩ [("_law_script", u)]) ∧ ∀ base : Heap, (K w.params).In base → base.Ns mainGlobals mg → FnOk l.prog w (K w.params) mg base CX0 7 fa fd ["_law_script"] (spLaw (K w.params))) :
    PySem.W.WalkO q loose XP YP l.row.toRowW d [] (fun f vs => PySem.call f vs) :=
  L2.walk_of (n := 63) (k := 7) (x := "_law_script") (CX := fun _ => CX0) (sp := fun w => spLaw (K w.params)) hn (by decide) hdf ⟨rfl, by decide, by decide⟩ hY F (fun _ _ a ns hl _ hS => ⟨a, ns, rfl, hS, hl, fun _ => rfl⟩) fun _ _ _ _ _ z => z
end PA

open PySem PySem.W PyProof.Rows
set_option maxRecDepth 100000 in
set_option maxHeartbeats 0 in
theorem PySem.Challenge.cw_pairahead_k53_rivals_refused_holds : PySem.Challenge.rw_pairahead_k53_rivals_refused.Holds := by
  w_on; o_law; k_head; (case hw => w_witness2)
  k_fill
  refine PA.walk_ (l := PySem.Challenge.rw_pairahead_k53_rivals_refused) rfl rfl (fun w h Y => PySem.W.kIn_of Y) ?F
  case F =>
    intro w mg fa h KX G hmg
    refine' PA.all_mk KX G hmg ?aC ?pgC ?hdC ?poC ?saC ?kcC ?mkC ?nCnames ?nCcost ?zisinstance ?zint ?zbool ?zlist ?ztuple ?zlen ?zall ?zzip ?zrange ?zsuper ?tpS ?staS ?aCN ?lxCN ?rvCN ?saCN ?xbCN ?tyCN ?kpCN ?iCCN ?tICN ?lfCN ?cdCN ?lcCN ?suCN ?msCN ?mvCN ?ldCN ?v2CN ?fiCN ?noCN ?gaCN ?ggCN ?hdCN ?isCN ?aCT ?lxCT ?rvCT ?saCT ?xbCT ?tyCT ?kpCT ?iCCT ?tICT ?lfCT ?cdCT ?lcCT ?suCT ?msCT ?mvCT ?ldCT ?v2CT ?fiCT ?noCT ?gaCT ?ggCT ?hdCT ?isCT ?aCM ?lxCM ?rvCM ?saCM ?xbCM ?tyCM ?kpCM ?iCCM ?tICM ?lfCM ?cdCM ?lcCM ?suCM ?msCM ?mvCM ?ldCM ?v2CM ?fiCM ?noCM ?gaCM ?ggCM ?hdCM ?isCM ?sCNCN ?sCNCT ?sCNCM ?sCTCN ?sCTCT ?sCTCM ?sCMCN ?sCMCT ?sCMCM ?aInit ?lInit ?cInit ?kInit ?iInit ?ap ?gp ?tp ?aOrder ?lOrder ?cOrder ?kOrder ?aCall ?lCall ?cCall ?kCall ?iCall ?lT ?aExch ?lExch ?cExch ?kExch ?iExch ?aPut ?lPut ?cPut ?kPut ?iPut ?aDrop ?lDrop ?cDrop ?kDrop ?iDrop ?aPlace ?lPlace ?cPlace ?kPlace ?iPlace ?adraw ?ldraw ?cdraw ?kdraw ?astart ?lstart ?cstart ?kstart ?apick ?lpick ?cpick ?kpick ?amixed ?lmixed ?cmixed ?kmixed ?asame ?lsame ?csame ?ksame ?anames ?lnames ?cnames ?knames ?apmv ?lpmv ?cpmv ?kpmv ?aLaw ?lLaw ?cLaw ?kLaw
    (case aC => k_is)
    (case pgC => k_is)
    (case hdC => k_is)
    (case poC => k_is)
    (case saC => k_is)
    (case kcC => k_is)
    (case mkC => k_is)
    (case nCnames => k_is)
    (case nCcost => k_is)
    (case zisinstance => k_is)
    (case zint => k_is)
    (case zbool => k_is)
    (case zlist => k_is)
    (case ztuple => k_is)
    (case zlen => k_is)
    (case zall => k_is)
    (case zzip => k_is)
    (case zrange => k_is)
    (case zsuper => k_is)
    (case tpS => first | rfl | decide +kernel | kernel_rfl)
    (case staS => k_is)
    (case aCN => k_is)
    (case lxCN => k_is)
    (case rvCN => first | rfl | decide +kernel)
    (case saCN => k_is)
    (case xbCN => k_is)
    (case tyCN => k_is)
    (case kpCN => k_is)
    (case iCCN => k_is)
    (case tICN => k_is)
    (case lfCN => k_is)
    (case cdCN => k_is)
    (case lcCN => k_is)
    (case suCN => ks_is)
    (case msCN => k_is)
    (case mvCN => k_is)
    (case ldCN => k_is)
    (case v2CN => first | rfl | kernel_rfl)
    (case fiCN => first | rfl | decide +kernel | kernel_rfl)
    (case noCN => k_is)
    (case gaCN => k_is)
    (case ggCN => k_is)
    (case hdCN => k_is)
    (case isCN => k_is)
    (case aCT => k_is)
    (case lxCT => k_is)
    (case rvCT => first | rfl | decide +kernel)
    (case saCT => k_is)
    (case xbCT => k_is)
    (case tyCT => k_is)
    (case kpCT => k_is)
    (case iCCT => k_is)
    (case tICT => k_is)
    (case lfCT => k_is)
    (case cdCT => k_is)
    (case lcCT => k_is)
    (case suCT => ks_is)
    (case msCT => k_is)
    (case mvCT => k_is)
    (case ldCT => k_is)
    (case v2CT => first | rfl | kernel_rfl)
    (case fiCT => first | rfl | decide +kernel | kernel_rfl)
    (case noCT => k_is)
    (case gaCT => k_is)
    (case ggCT => k_is)
    (case hdCT => k_is)
    (case isCT => k_is)
    (case aCM => k_is)
    (case lxCM => k_is)
    (case rvCM => first | rfl | decide +kernel)
    (case saCM => k_is)
    (case xbCM => k_is)
    (case tyCM => k_is)
    (case kpCM => k_is)
    (case iCCM => k_is)
    (case tICM => k_is)
    (case lfCM => k_is)
    (case cdCM => k_is)
    (case lcCM => k_is)
    (case suCM => ks_is)
    (case msCM => k_is)
    (case mvCM => k_is)
    (case ldCM => k_is)
    (case v2CM => first | rfl | kernel_rfl)
    (case fiCM => first | rfl | decide +kernel | kernel_rfl)
    (case noCM => k_is)
    (case gaCM => k_is)
    (case ggCM => k_is)
    (case hdCM => k_is)
    (case isCM => k_is)
    (case sCNCN => first | rfl | k_is)
    (case sCNCT => first | rfl | k_is)
    (case sCNCM => first | rfl | k_is)
    (case sCTCN => first | rfl | k_is)
    (case sCTCT => first | rfl | k_is)
    (case sCTCM => first | rfl | k_is)
    (case sCMCN => first | rfl | k_is)
    (case sCMCT => first | rfl | k_is)
    (case sCMCM => first | rfl | k_is)
    (case aInit => k_is)
    (case lInit => k_is)
    (case cInit => k_is)
    (case kInit => k_is)
    (case iInit => k_is)
    (case ap => k_is)
    (case gp => k_is)
    (case tp => k_is)
    (case aOrder => k_is)
    (case lOrder => k_is)
    (case cOrder => k_is)
    (case kOrder => k_is)
    (case aCall => k_is)
    (case lCall => k_is)
    (case cCall => k_is)
    (case kCall => k_is)
    (case iCall => k_is)
    (case lT => k_is)
    (case aExch => k_is)
    (case lExch => k_is)
    (case cExch => k_is)
    (case kExch => k_is)
    (case iExch => k_is)
    (case aPut => k_is)
    (case lPut => k_is)
    (case cPut => k_is)
    (case kPut => k_is)
    (case iPut => k_is)
    (case aDrop => k_is)
    (case lDrop => k_is)
    (case cDrop => k_is)
    (case kDrop => k_is)
    (case iDrop => k_is)
    (case aPlace => k_is)
    (case lPlace => k_is)
    (case cPlace => k_is)
    (case kPlace => k_is)
    (case iPlace => k_is)
    (case adraw => k_is)
    (case ldraw => k_is)
    (case cdraw => k_is)
    (case kdraw => k_is)
    (case astart => k_is)
    (case lstart => k_is)
    (case cstart => k_is)
    (case kstart => k_is)
    (case apick => k_is)
    (case lpick => k_is)
    (case cpick => k_is)
    (case kpick => k_is)
    (case amixed => k_is)
    (case lmixed => k_is)
    (case cmixed => k_is)
    (case kmixed => k_is)
    (case asame => k_is)
    (case lsame => k_is)
    (case csame => k_is)
    (case ksame => k_is)
    (case anames => k_is)
    (case lnames => k_is)
    (case cnames => k_is)
    (case knames => k_is)
    (case apmv => k_is)
    (case lpmv => k_is)
    (case cpmv => k_is)
    (case kpmv => k_is)
    (case aLaw => k_is)
    (case lLaw => k_is)
    (case cLaw => k_is)
    (case kLaw => k_is)
#print axioms PySem.Challenge.cw_pairahead_k53_rivals_refused_holds
