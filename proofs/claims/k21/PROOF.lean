import PyProof.Rows.All
import Wide.All
import OpenK.AllK
import Wide.FinOn
import HandS.ForMost
import HandS.IsInst
import HandS.Zip
import HandS.Wide
import HandS.Codes
import HandS.Evl
import HandS.Conv
import HandS.Defaults
import HandS.MakeKw
import HandS.Walk
import HandS.TupAny
import HandS.Words
import HandS.WordsList
import PySem.Challenge.RW_pairahead_k21_row_sets_compared
import HandS.TupLe
import KE.KDictCopyH
import HandS.Base
import HandS.Call
import HandS.List
import HandS.Dict
import KE.KDictDisplayH
import HandS.More
import KE.GoesMore
import KE.GoesZip
import KE.GoesEnum
import HandS.TupLen
import HandS.OwnEq
import HandS.Gcd
import HandS.ExcBuiltin
import HandS.TryOnly
import HandS.ForExc
import HandS.FStr
import KE.KCallOwn
import PyProof.Conv_bool
import HandS.Style
set_option Elab.async false
set_option linter.all false
set_option maxRecDepth 100000
set_option maxHeartbeats 2000000
/-! what serves every row -/
namespace L2
open PySem PySem.Spec PyProof.Rows
theorem PI.or {X : Cx} {tg l : Expr} {w1 w2 : TI} (h1 : PI X tg l w1) (h2 : PI X tg l w2) : PI X tg l (fun σ H R => w1 σ H R ∨ w2 σ H R) :=
  ⟨fun pins s σ H R I h => h.elim (h1.run pins s σ H R I) (h2.run pins s σ H R I)⟩
/-- a list or a tuple -/
def Sq (K : PySem.W.Frag) (H : Hp) (a : Addr) (xs : List V) : Prop := SqL K H a xs ∨ SqT K H a xs
theorem SqT.up {K : PySem.W.Frag} {H H' : Hp} {a : Addr} {xs : List V} (h : SqT K H a xs) (e : Same H H') : SqT K H' a xs :=
  h.elim (fun h => .inl (h.elim (fun h => .inl (e _ _ h)) fun ⟨o, h⟩ => .inr ⟨o, e _ _ h⟩)) fun h => .inr h
theorem SqL.up {K : PySem.W.Frag} {H H' : Hp} {a : Addr} {xs : List V} (h : SqL K H a xs) (e : Same H H') : SqL K H' a xs :=
  h.elim (fun h => .inl (h.elim (fun h => .inl (e _ _ h)) fun ⟨o, h⟩ => .inr ⟨o, e _ _ h⟩)) fun h => .inr h
theorem Sq.up {K : PySem.W.Frag} {H H' : Hp} {a : Addr} {xs : List V} (h : Sq K H a xs) (e : Same H H') : Sq K H' a xs := h.imp (fun h => SqL.up h e) fun h => SqT.up h e
theorem walk_l {K : PySem.W.Frag} {a : Addr} {xs : List V} : Walk (Itl K a) xs.length (fun H => SqL K H a xs) (YAt xs) :=
  ⟨fun i H hi q => ⟨xs, xs[i], q, by simp [hi]⟩, fun H q => ⟨xs, q, Nat.le_refl _⟩, fun i H x H' hi q y => ⟨y.1, y.2 xs q⟩⟩
theorem walk_t {K : PySem.W.Frag} {a : Addr} {xs : List V} : Walk (Itt K a) xs.length (fun H => SqT K H a xs) (YAt xs) :=
  ⟨fun i H hi q => ⟨xs, xs[i], q, by simp [hi]⟩, fun H q => ⟨xs, q, Nat.le_refl _⟩, fun i H x H' hi q y => ⟨y.1, y.2 xs q⟩⟩
/-- how a value that is a list or a tuple of xs stands, as one of the two -/
inductive Kind where
  | l | t
def Sk (K : PySem.W.Frag) (k : Kind) (H : Hp) (a : Addr) (xs : List V) : Prop := match k with
  | .l => SqL K H a xs
  | .t => SqT K H a xs
theorem Sk.sq {K : PySem.W.Frag} {k : Kind} {H : Hp} {a : Addr} {xs : List V} (h : Sk K k H a xs) : Sq K H a xs := by
  cases k
  · exact .inl h
  · exact .inr h
theorem Sk.up {K : PySem.W.Frag} {k : Kind} {H H' : Hp} {a : Addr} {xs : List V} (h : Sk K k H a xs) (e : Same H H') : Sk K k H' a xs := by
  cases k
  · exact SqL.up h e
  · exact SqT.up h e
theorem Sq.kind {K : PySem.W.Frag} {H : Hp} {a : Addr} {xs : List V} (h : Sq K H a xs) : ∃ k, Sk K k H a xs := h.elim (fun h => ⟨.l, h⟩) fun h => ⟨.t, h⟩
def ItSq (K : PySem.W.Frag) (k : Kind) (a : Addr) : It := match k with
  | .l => Itl K a
  | .t => Itt K a
theorem walk_k {K : PySem.W.Frag} {k : Kind} {a : Addr} {xs : List V} : Walk (ItSq K k a) xs.length (fun H => Sk K k H a xs) (YAt xs) := by
  cases k
  · exact walk_l
  · exact walk_t
/-- a walk over a list or a tuple -/
def iSq (K : PySem.W.Frag) (tl : TE) : TI := fun σ H R => ∃ k : Kind, tl σ H fun x H1 => ∃ a, x = .ref a ∧ (∃ xs, Sk K k H1 a xs) ∧ R (ItSq K k a) H1
theorem pi_sq {X : Cx} {tg l : Expr} {tl : TE} (hl : PE X l tl) : PI X tg l (iSq X.K tl) := by
  refine ⟨fun pins s σ H R I ⟨k, h⟩ => ?_⟩
  cases k
  · exact (pi_list hl).run pins s σ H R I h
  · exact (pi_tup hl).run pins s σ H R I h
/-! ### comprehensions -/
section
variable {J : It} {n : Nat} {G : Hp → Prop} {xs : List V} {g : TG} {tt : TT} {te : TE} {vs : List Nat} {σ : L2.St} {H1 : Hp} {D : Addr} {Qd : Hp → Prop}
theorem new_ {H : Hp} {p : Addr} {o : HO} (hp : H p = none) : Same H (upd H p o) := fun b u e => by
  rw [upd_ne (ne_of_none e hp)]
  exact e
/-- all but D is as it was -/
def But (D : Addr) (H H' : Hp) : Prop := ∀ c o, c ≠ D → H c = some o → H' c = some o
/-- the values are made one after another, the heap of before stays -/
theorem lc_acc (w : Walk J n G (YAt xs)) (hn : n ≤ sizeLine) (hD : H1 D = none) (hG : ∀ H, Same H1 H → G H) (A : Nat → List V → Hp → Prop) (hl : ∀ i acc H, A i acc H → acc.length ≤ i) (A0 : A 0 [] (upd H1 D (.lst [])))
    (hs : ∀ (i : Nat) (x : V) (H : Hp) (acc : List V) (Φ : V → Hp → Prop) (Ψ : Hp → Prop), i < n → xs[i]? = some x → Same H1 H → H D = some (.lst acc) → A i acc H →
      (∀ y H4, Same H H4 → H4 D = some (.lst acc) → (∀ H5, H5 D = some (.lst (acc ++ [y])) → But D H4 H5 → But D H5 H4 → A (i + 1) (acc ++ [y]) H5) → Φ y H4) →
      g x (wipe σ vs) H fun σ2 H2 => wipe σ2 vs = wipe σ vs ∧ tt σ2 H2 fun b H3 => if b = true then te σ2 H3 Φ else Ψ H3)
    (hd : ∀ H acc, Same H1 H → H D = some (.lst acc) → A n acc H → Qd H) :
    ∃ W : Nat → Nat → Hp → Prop, (∃ m, W 0 m (upd H1 D (.lst []))) ∧ ∀ i m H, W i m H →
      (J.stop i H ∧ Qd H) ∨ (J.go i H ∧ ∃ Nx : Hp → Prop, (∀ H', Nx H' → ∃ m', m' < m ∧ W (i + 1) m' H') ∧ ∀ x H', J.yld i H x H' → g x (wipe σ vs) H' fun σ2 H2 => wipe σ2 vs = wipe σ vs ∧ tt σ2 H2 fun b H3 =>
        if b = true then te σ2 H3 fun y H4 => ∃ acc, H4 D = some (.lst acc) ∧ acc.length < sizeLine ∧ Nx (upd H4 D (.lst (acc ++ [y]))) else Nx H3) := by
  refine lc_it w (fun i H => Same H1 H ∧ ∃ acc, H D = some (.lst acc) ∧ A i acc H) ⟨new_ hD, [], upd_same, A0⟩ (fun i H _ p => hG H p.1) (fun i x H H' hi p y => ?_) fun H p => ?_
  · obtain ⟨rfl, hx⟩ := y
    obtain ⟨sm, acc, hd', ha⟩ := p
    refine hs i x _ acc _ _ hi hx sm hd' ha fun y H4 s4 d4 k => ⟨acc, d4, Nat.lt_of_lt_of_le (Nat.lt_of_le_of_lt (hl _ _ _ ha) hi) hn, fun c o e => ?_, acc ++ [y], upd_same, k _ upd_same (fun c o cd e => ?_) fun c o cd e => ?_⟩
    · rw [upd_ne (ne_of_none e hD)]
      exact s4 _ _ (sm _ _ e)
    · rw [upd_ne cd]
      exact e
    · rw [upd_ne cd] at e
      exact e
  · obtain ⟨sm, acc, hd', ha⟩ := p
    exact hd H acc sm hd' ha
/-- values that do not hang on the heap -/
theorem lc_same (w : Walk J n G (YAt xs)) (hn : n ≤ sizeLine) (hD : H1 D = none) (hG : ∀ H, Same H1 H → G H) (ys : List V) (hy : ys.length = n)
    (hs : ∀ (i : Nat) (x y : V) (H : Hp) (Φ : V → Hp → Prop) (Ψ : Hp → Prop), xs[i]? = some x → ys[i]? = some y → Same H1 H → (∀ H4, Same H H4 → Φ y H4) →
      g x (wipe σ vs) H fun σ2 H2 => wipe σ2 vs = wipe σ vs ∧ tt σ2 H2 fun b H3 => if b = true then te σ2 H3 Φ else Ψ H3)
    (hd : ∀ H, Same H1 H → H D = some (.lst ys) → Qd H) :
    ∃ W : Nat → Nat → Hp → Prop, (∃ m, W 0 m (upd H1 D (.lst []))) ∧ ∀ i m H, W i m H →
      (J.stop i H ∧ Qd H) ∨ (J.go i H ∧ ∃ Nx : Hp → Prop, (∀ H', Nx H' → ∃ m', m' < m ∧ W (i + 1) m' H') ∧ ∀ x H', J.yld i H x H' → g x (wipe σ vs) H' fun σ2 H2 => wipe σ2 vs = wipe σ vs ∧ tt σ2 H2 fun b H3 =>
        if b = true then te σ2 H3 fun y H4 => ∃ acc, H4 D = some (.lst acc) ∧ acc.length < sizeLine ∧ Nx (upd H4 D (.lst (acc ++ [y]))) else Nx H3) := by
  refine lc_acc w hn hD hG (fun i acc _ => acc = ys.take i) (fun i acc H e => by rw [e, List.length_take]; omega) (by rw [List.take_zero]) (fun i x H acc Φ Ψ hi hx sm hd' ha k => ?_) fun H acc sm hd' ha => hd H sm ?_
  · have hi' : i < ys.length := by omega
    have ey : ys[i]? = some ys[i] := List.getElem?_eq_getElem hi'
    refine hs i x ys[i] H Φ Ψ hx ey sm fun H4 s4 => k _ H4 s4 (s4 _ _ hd') fun H5 _ _ _ => ?_
    rw [ha, List.take_add_one, ey]
    rfl
  · rw [hd', ha, ← hy, List.take_length]
end
/-! ### x in an instance with the own method -/
section
variable {X : Cx} {CX : CXT} {k : Nat} {C f : Addr} {fd : FuncData} {ps : List Str} {sp : Sp} {E : XK}
theorem op_inOwn (hs : PySem.W.findIn X.K (.ref C) "__contains__" = some (some (.ref f))) (hf : PySem.W.isFn X.K (.ref f) = true) (F : FnOk X.prog X.w X.K X.mg X.base CX k f fd ps sp) (hr : Room k X.A) (hb : Binds X.K fd ps []) (hx : Passes CX X E) :
    OpR X (compareOp .In) (fun x y H Q => ∃ a dx fs, y = .ref a ∧ H a = some (.ins C dx fs) ∧ sp [.ref a, x] H (fun v H' => ∃ b, v = .bl b ∧ Q (.bl b) H') E) := by
  intro pins s σ H x y v u Q I rx ry h
  obtain ⟨a, dx, fs, rfl, ha, q⟩ := h
  cases ry
  obtain ⟨mA, J, _⟩ := ins_get I.hok ha
  obtain ⟨od, J, _⟩ := J.look
  obtain ⟨m, hF⟩ := I.fr
  refine PySem.W.in_K hF I.ok.mod.kin J hs hf ?_
  refine wpAny_mono (run_fn (us := [.ref a, v]) (vs := [.ref a, x]) F hr hb .nil hx I (.cons rfl (.cons rx .nil)) q) (fun w s' z => ?_) fun _ _ z => z
  obtain ⟨v', H', I', rv, b, rfl, q'⟩ := z
  cases rv
  exact wpAny_truthy_bool ⟨.bl b, H', I', rfl, q'⟩
theorem op_notInOwn (hs : PySem.W.findIn X.K (.ref C) "__contains__" = some (some (.ref f))) (hf : PySem.W.isFn X.K (.ref f) = true) (F : FnOk X.prog X.w X.K X.mg X.base CX k f fd ps sp) (hr : Room k X.A) (hb : Binds X.K fd ps []) (hx : Passes CX X E) :
    OpR X (compareOp .NotIn) (fun x y H Q => ∃ a dx fs, y = .ref a ∧ H a = some (.ins C dx fs) ∧ sp [.ref a, x] H (fun v H' => ∃ b, v = .bl b ∧ Q (.bl (!b)) H') E) := by
  intro pins s σ H x y v u Q I rx ry h
  obtain ⟨a, dx, fs, rfl, ha, q⟩ := h
  cases ry
  obtain ⟨mA, J, _⟩ := ins_get I.hok ha
  obtain ⟨od, J, _⟩ := J.look
  obtain ⟨m, hF⟩ := I.fr
  refine PySem.W.notIn_K hF I.ok.mod.kin J hs hf ?_
  refine wpAny_mono (run_fn (us := [.ref a, v]) (vs := [.ref a, x]) F hr hb .nil hx I (.cons rfl (.cons rx .nil)) q) (fun w s' z => ?_) fun _ _ z => z
  obtain ⟨v', H', I', rv, b, rfl, q'⟩ := z
  cases rv
  exact wpAny_truthy_bool ⟨.bl (!b), H', I', rfl, q'⟩
end
end L2

set_option maxHeartbeats 2000000
namespace L2
open PySem PySem.Spec PyProof.Rows RZ
/-! ### zip, slices of lists and tuples -/
theorem walk_zipT {K : PySem.W.Frag} {a b : Addr} {xs ys : List V} {n : Nat} (hn : n = min xs.length ys.length) : Walk (ItzT K a b) n (fun H => SqT K H a xs ∧ SqT K H b ys) (YPair (fun i => xs[i]?) (fun i => ys[i]?)) :=
  ⟨fun i H hi q => ⟨xs, ys, xs[i]'(by omega), ys[i]'(by omega), q.1, q.2, List.getElem?_eq_getElem _, List.getElem?_eq_getElem _⟩,
    fun H q => ⟨xs, ys, q.1, q.2, by omega⟩, fun i H v H' hi q y => by
      obtain ⟨T, x, y', rfl, hT, rfl, f1, f2⟩ := y
      exact ⟨T, x, y', rfl, hT, rfl, f1 xs q.1, f2 ys q.2⟩⟩
def ItZk (K : PySem.W.Frag) (k : Kind) (a b : Addr) : It := match k with
  | .l => Itz K a b
  | .t => ItzT K a b
theorem walk_zk {K : PySem.W.Frag} {k : Kind} {a b : Addr} {xs ys : List V} {n : Nat} (hn : n = min xs.length ys.length) : Walk (ItZk K k a b) n (fun H => Sk K k H a xs ∧ Sk K k H b ys) (YPair (fun i => xs[i]?) (fun i => ys[i]?)) := by
  cases k
  · exact walk_zip hn
  · exact walk_zipT hn
theorem zip_k {K : PySem.W.Frag} {k : Kind} {H : Hp} {a b : Addr} {xs ys : List V} {R : It → Hp → Prop} (ha : Sk K k H a xs) (hb : Sk K k H b ys) (h : R (ItZk K k a b) H) :
    (SqL K H a xs ∧ SqL K H b ys ∧ R (Itz K a b) H) ∨ (SqT K H a xs ∧ SqT K H b ys ∧ R (ItzT K a b) H) := by
  cases k
  · exact .inl ⟨ha, hb, h⟩
  · exact .inr ⟨ha, hb, h⟩
theorem cut_all {xs : List V} {lo hi : Option Int} (h : HT.sIx xs.length 0 lo = 0 ∧ HT.sIx xs.length xs.length hi = xs.length) : cutV xs lo hi = xs := by
  unfold cutV
  rw [h.1, h.2, List.drop_zero, Nat.sub_zero, List.take_length]
theorem sl_k {K : PySem.W.Frag} {k : Kind} {H : Hp} {a : Addr} {xs : List V} {lo hi : Option Int} {Q : V → Hp → Prop} (ha : Sk K k H a xs) (h : ∀ p H', Same H H' → Sk K k H' p (cutV xs lo hi) → Q (.ref p) H') :
    rSlL K (.ref a) lo hi H Q ∨ rSlA K (.ref a) lo hi H Q := by
  cases k
  · exact .inl ⟨a, xs, rfl, ha, fun p hp => h p _ (new_ hp) (SqL.of upd_same)⟩
  · exact .inr ⟨a, xs, rfl, ha, fun w => h a H (fun _ _ e => e) (by rw [cut_all w]; exact ha), fun _ p hp => h p _ (new_ hp) (SqT.of upd_same)⟩
theorem cut_1 (xs : List V) : cutV xs (some (1 : Int)) none = xs.drop 1 := by
  unfold cutV
  rw [show (1 : Int) = ((1 : Nat) : Int) from rfl, HT.sIx_nat, HT.sIx_none]
  rcases Nat.eq_zero_or_pos xs.length with h | h
  · have : xs = [] := List.length_eq_zero_iff.mp h
    subst this
    rfl
  · rw [Nat.min_eq_left h, List.take_of_length_le (by rw [List.length_drop]; exact Nat.le_refl _)]
theorem cut_to (xs : List V) (n : Nat) : cutV xs none (some (n : Int)) = xs.take n := by
  unfold cutV
  rw [HT.sIx_nat, HT.sIx_none, List.drop_zero, Nat.sub_zero]
  rcases Nat.le_total n xs.length with h | h
  · rw [Nat.min_eq_left h]
  · rw [Nat.min_eq_right h, List.take_length, List.take_of_length_le h]
/-! ### small words -/
theorem take_succ' {α : Type} {l : List α} {i : Nat} {x : α} (h : l[i]? = some x) : l.take (i + 1) = l.take i ++ [x] := by
  rw [List.take_add_one, h]
  rfl
theorem ifD_no {p A B : Prop} [Decidable p] (h : ¬ p) (q : B) : if decide p = true then A else B := by
  rw [decide_eq_false h]
  exact iteF q
theorem ifD_yes {p A B : Prop} [Decidable p] (h : p) (q : A) : if decide p = true then A else B := by
  rw [decide_eq_true h]
  exact iteT q
theorem ifD_2 {p A B : Prop} [Decidable p] (h1 : p → A) (h2 : ¬ p → B) : if decide p = true then A else B := by
  by_cases h : p
  · exact ifD_yes h (h1 h)
  · exact ifD_no h (h2 h)
theorem ifB_2 {b : Bool} {A B : Prop} (h1 : b = true → A) (h2 : b = false → B) : if b = true then A else B := by
  cases b
  · exact iteF (h2 rfl)
  · exact iteT (h1 rfl)
theorem Same.none {H H' : Hp} {x : Addr} (s : Same H H') (h : H' x = Option.none) : H x = Option.none := by
  cases e : H x with
  | none => rfl
  | some o => rw [s _ _ e] at h; cases h
theorem all_true (n : Nat) : (List.replicate n true).all id = true := by
  rw [List.all_eq_true]
  intro x hx
  rw [(List.mem_replicate.mp hx).2]
  rfl
theorem boot_isi : bootBuiltins "isinstance" = some (.builtin "isinstance") := by decide +kernel
theorem boot_int' : bootBuiltins "int" = some (.type "int") := by decide +kernel
theorem boot_bool' : bootBuiltins "bool" = some (.type "bool") := by decide +kernel
theorem boot_tuple' : bootBuiltins "tuple" = some (.type "tuple") := by decide +kernel
theorem boot_list' : bootBuiltins "list" = some (.type "list") := by decide +kernel
theorem boot_all' : bootBuiltins "all" = some (.builtin "all") := by decide +kernel
structure Df (K : PySem.W.Frag) (mg : Str → Option Value) (x : Str) (st : Stmt) (f : Addr) (fd : FuncData) (ps : List Str) : Prop where
  F : Fun K x x st f fd
  B : Binds K fd ps []
  M : mg x = some (.ref f)
def rTupK (K : PySem.W.Frag) : List V → Hp → (V → Hp → Prop) → Prop := fun xs H Q => ∃ p ys, xs = [.ref p] ∧ ((SqL K H p ys ∧ ∀ l, H l = none → Q (.ref l) (upd H l (.tup ys))) ∨ (SqT K H p ys ∧ Q (.ref p) H))
theorem call_tupleK {X : Cx} {K : PySem.W.Frag} (h : X.K = K) : CallR X (.type "tuple") (rTupK K) := h ▸ call_tuple_of
def rLstK (K : PySem.W.Frag) : List V → Hp → (V → Hp → Prop) → Prop := fun xs H Q => ∃ p ys, xs = [.ref p] ∧ (SqL K H p ys ∨ SqT K H p ys) ∧ ∀ l, H l = none → Q (.ref l) (upd H l (.lst ys))
theorem call_listK {X : Cx} {K : PySem.W.Frag} (h : X.K = K) : CallR X (.type "list") (rLstK K) := h ▸ call_list_of
def rLenK (K : PySem.W.Frag) : List V → Hp → (V → Hp → Prop) → Prop := fun xs H Q => ∃ p ys, xs = [.ref p] ∧ (SqL K H p ys ∨ SqT K H p ys) ∧ Q (.int ys.length) H
theorem call_lenK {X : Cx} {K : PySem.W.Frag} (h : X.K = K) : CallR X (.builtin "len") (rLenK K) := h ▸ call_len_seq
def rIxTK (K : PySem.W.Frag) : R2 := fun x y H Q => ∃ p xs i v, x = .ref p ∧ y = .int i ∧ SqT K H p xs ∧ atI xs i = some v ∧ Q v H
theorem ix_tupK {X : Cx} {K : PySem.W.Frag} (h : X.K = K) : IxR X (rIxTK K) := h ▸ ix_tup
/-! ### what stands at each place of a list of references -/
def Ea {α : Type} (H : Hp) (P : Hp → Addr → α → Prop) (xs : List V) (ds : List α) : Prop := xs.length = ds.length ∧ ∀ (i : Nat) (x : V) (r : α), xs[i]? = some x → ds[i]? = some r → ∃ c, x = .ref c ∧ P H c r
section
variable {α : Type} {H H' : Hp} {P P' : Hp → Addr → α → Prop} {xs ys : List V} {ds es : List α} {c : Addr} {r : α}
theorem Ea.imp (e : Ea H P xs ds) (f : ∀ c r, P H c r → P' H' c r) : Ea H' P' xs ds := ⟨e.1, fun i x r h1 h2 => let ⟨c, hx, q⟩ := e.2 i x r h1 h2; ⟨c, hx, f c r q⟩⟩
theorem Ea.nil : Ea H P [] [] := ⟨rfl, fun i x r h _ => by simp at h⟩
theorem Ea.append (e : Ea H P xs ds) (e' : Ea H P ys es) : Ea H P (xs ++ ys) (ds ++ es) := by
  refine ⟨by rw [List.length_append, List.length_append, e.1, e'.1], fun i x r h1 h2 => ?_⟩
  rcases Nat.lt_or_ge i xs.length with hi | hi
  · rw [List.getElem?_append_left hi] at h1
    rw [List.getElem?_append_left (by rw [← e.1]; exact hi)] at h2
    exact e.2 i x r h1 h2
  · rw [List.getElem?_append_right hi] at h1
    rw [List.getElem?_append_right (by rw [← e.1]; exact hi), ← e.1] at h2
    exact e'.2 _ x r h1 h2
theorem Ea.one (q : P H c r) : Ea H P [.ref c] [r] := by
  refine ⟨rfl, fun i x r' h1 h2 => ?_⟩
  match i, h1, h2 with
  | 0, h1, h2 =>
    cases h1
    cases h2
    exact ⟨c, rfl, q⟩
  | (j + 1), h1, _ => simp at h1
theorem Ea.push (e : Ea H P xs ds) (q : P H c r) : Ea H P (xs ++ [.ref c]) (ds ++ [r]) := e.append (.one q)
theorem Ea.get (e : Ea H P xs ds) {i : Nat} {r : α} (h : ds[i]? = some r) : ∃ c, xs[i]? = some (.ref c) ∧ P H c r := by
  have hi : i < xs.length := by rw [e.1]; exact (List.getElem?_eq_some_iff.mp h).1
  obtain ⟨c, hc, q⟩ := e.2 i _ r (List.getElem?_eq_getElem hi) h
  exact ⟨c, by rw [List.getElem?_eq_getElem hi, hc], q⟩
theorem Ea.at_ (e : Ea H P xs ds) {i : Nat} {x : V} (h : xs[i]? = some x) : ∃ c r, x = .ref c ∧ ds[i]? = some r ∧ P H c r := by
  have hi : i < ds.length := by rw [← e.1]; exact (List.getElem?_eq_some_iff.mp h).1
  obtain ⟨c, hc, q⟩ := e.2 i _ _ h (List.getElem?_eq_getElem hi)
  exact ⟨c, _, hc, List.getElem?_eq_getElem hi, q⟩
end
/-- a tuple at c of what r is written as -/
def TupOf {α : Type} (f : α → List V) (H : Hp) (c : Addr) (r : α) : Prop := H c = some (.tup (f r))
section
variable {α : Type} {f : α → List V} {H H' : Hp} {xs : List V} {ds : List α} {c p C dx : Addr} {r : α}
theorem TupOf.lst {ys zs : List V} (q : TupOf f H c r) (hD : H p = some (.lst ys)) : TupOf f (upd H p (.lst zs)) c r := by
  unfold TupOf
  rw [upd_ne (ne_of (H := H) q hD (by intro z; cases z))]
  exact q
theorem TupOf.ins {fs : List (Str × V)} {o : HO} (q : TupOf f H c r) (hp : H p = some (.ins C dx fs)) : TupOf f (upd H p o) c r := by
  unfold TupOf
  rw [upd_ne (ne_of (H := H) q hp (by intro z; cases z))]
  exact q
theorem TupOf.but {ys : List V} (q : TupOf f H c r) (hD : H p = some (.lst ys)) (b : But p H H') : TupOf f H' c r := b _ _ (ne_of (H := H) q hD (by intro z; cases z)) q
theorem Ea.same (e : Ea H (TupOf f) xs ds) (s : Same H H') : Ea H' (TupOf f) xs ds := e.imp fun c r q => s _ _ q
end
end L2

set_option maxHeartbeats 2000000
namespace PA
/-- below 2 ^ n in size -/
abbrev Sm (n : Nat) (x : Int) : Prop := x.natAbs < 2 ^ n
theorem Sm.mono {n m : Nat} {x : Int} (h : Sm n x) (hn : n ≤ m) : Sm m x := Nat.lt_of_lt_of_le h (Nat.pow_le_pow_right (by decide) hn)
theorem Sm.mul {n m k : Nat} {x y : Int} (hx : Sm n x) (hy : Sm m y) (h : n + m ≤ k) : Sm k (x * y) := by
  refine Sm.mono (n := n + m) ?_ h
  unfold Sm
  rw [Int.natAbs_mul, Nat.pow_add]
  exact Nat.mul_lt_mul'' hx hy
theorem Sm.add {n k : Nat} {x y : Int} (hx : Sm n x) (hy : Sm n y) (h : n + 1 ≤ k) : Sm k (x + y) := by
  refine Sm.mono (n := n + 1) ?_ h
  unfold Sm at *
  rw [Nat.pow_succ]
  omega
theorem Sm.sub {n k : Nat} {x y : Int} (hx : Sm n x) (hy : Sm n y) (h : n + 1 ≤ k) : Sm k (x - y) := by
  refine Sm.mono (n := n + 1) ?_ h
  unfold Sm at *
  rw [Nat.pow_succ]
  omega
theorem Sm.neg {n : Nat} {x : Int} (hx : Sm n x) : Sm n (-x) := by
  unfold Sm at *
  rw [Int.natAbs_neg]
  exact hx
theorem Sm.le {n : Nat} {x y : Int} (hx : Sm n x) (h : y.natAbs ≤ x.natAbs) : Sm n y := Nat.lt_of_le_of_lt h hx
theorem Sm.one {n : Nat} (h : 0 < n) : Sm n 1 := by
  show (1 : Int).natAbs < 2 ^ n
  exact Nat.one_lt_two_pow (by omega)

/-- the divisor that a Ratio shortens by -/
def shr (t b : Int) : Int := if b < 0 then -((Nat.gcd t.natAbs b.natAbs : Nat) : Int) else ((Nat.gcd t.natAbs b.natAbs : Nat) : Int)
/-- lowest terms -/
structure Low (T B : Int) : Prop where
  pos : 0 < B
  cop : Nat.gcd T.natAbs B.natAbs = 1
theorem low_one (i : Int) : Low i 1 := ⟨by decide, Nat.gcd_one_right _⟩
theorem gcd_key {a b c d g : Nat} (h1 : a = c * g) (h2 : b = d * g) : Nat.gcd a b = Nat.gcd c d * g := by
  rw [h1, h2]
  exact Nat.gcd_mul_right _ _ _
theorem rat_mk {t b : Int} (hb : b ≠ 0) : shr t b ≠ 0 ∧ (shr t b).natAbs ≤ b.natAbs ∧ Low (t.fdiv (shr t b)) (b.fdiv (shr t b)) ∧ (t.fdiv (shr t b)) * b = t * (b.fdiv (shr t b)) ∧
    (t.fdiv (shr t b)).natAbs ≤ t.natAbs ∧ (b.fdiv (shr t b)).natAbs ≤ b.natAbs := by
  have hg : 0 < Nat.gcd t.natAbs b.natAbs := Nat.gcd_pos_of_pos_right _ (Int.natAbs_pos.mpr hb)
  have hgb : Nat.gcd t.natAbs b.natAbs ≤ b.natAbs := Nat.gcd_le_right _ (Int.natAbs_pos.mpr hb)
  have hsn : (shr t b).natAbs = Nat.gcd t.natAbs b.natAbs := by
    unfold shr
    split
    · rw [Int.natAbs_neg, Int.natAbs_natCast]
    · rw [Int.natAbs_natCast]
  have hs0 : shr t b ≠ 0 := by
    intro z
    rw [z] at hsn
    simp at hsn
    omega
  have dv : ∀ y : Int, (Nat.gcd t.natAbs b.natAbs) ∣ y.natAbs → ∃ q : Int, y = q * shr t b := by
    intro y hy
    have h1 : ((Nat.gcd t.natAbs b.natAbs : Nat) : Int) ∣ y := Int.ofNat_dvd_left.mpr hy
    obtain ⟨q, hq⟩ := h1
    unfold shr
    split
    · exact ⟨-q, by rw [Int.neg_mul_neg, Int.mul_comm]; exact hq⟩
    · exact ⟨q, by rw [Int.mul_comm]; exact hq⟩
  obtain ⟨T, hT⟩ := dv t (Nat.gcd_dvd_left _ _)
  obtain ⟨B, hB⟩ := dv b (Nat.gcd_dvd_right _ _)
  have eT : t.fdiv (shr t b) = T := by
    conv => lhs; lhs; rw [hT]
    exact Int.mul_fdiv_cancel _ hs0
  have eB : b.fdiv (shr t b) = B := by
    conv => lhs; lhs; rw [hB]
    exact Int.mul_fdiv_cancel _ hs0
  rw [eT, eB]
  have nT : t.natAbs = T.natAbs * Nat.gcd t.natAbs b.natAbs := by
    conv => lhs; rw [hT, Int.natAbs_mul, hsn]
  have nB : b.natAbs = B.natAbs * Nat.gcd t.natAbs b.natAbs := by
    conv => lhs; rw [hB, Int.natAbs_mul, hsn]
  refine ⟨hs0, by rw [hsn]; exact hgb, ⟨?_, ?_⟩, ?_, ?_, ?_⟩
  · have hB0 : B ≠ 0 := by
      intro z
      rw [z, Int.zero_mul] at hB
      exact hb hB
    rcases Int.lt_or_gt_of_ne hB0 with h | h
    · exfalso
      unfold shr at hB
      split at hB
      · rename_i hneg
        have : 0 < B * -((Nat.gcd t.natAbs b.natAbs : Nat) : Int) := Int.mul_pos_of_neg_of_neg h (by omega)
        omega
      · rename_i hneg
        have : B * ((Nat.gcd t.natAbs b.natAbs : Nat) : Int) < 0 := Int.mul_neg_of_neg_of_pos h (by omega)
        omega
    · exact h
  · have e : Nat.gcd t.natAbs b.natAbs = Nat.gcd T.natAbs B.natAbs * Nat.gcd t.natAbs b.natAbs := by
      exact gcd_key nT nB
    have e2 : 1 * Nat.gcd t.natAbs b.natAbs = Nat.gcd T.natAbs B.natAbs * Nat.gcd t.natAbs b.natAbs := by rw [Nat.one_mul]; exact e
    exact (Nat.eq_of_mul_eq_mul_right hg e2).symm
  · calc T * b = T * (B * shr t b) := by rw [← hB]
      _ = (T * shr t b) * B := by rw [Int.mul_comm B, ← Int.mul_assoc]
      _ = t * B := by rw [← hT]
  · rw [nT]; exact Nat.le_mul_of_pos_right _ hg
  · rw [nB]; exact Nat.le_mul_of_pos_right _ hg
/-- a fraction has one lowest form -/
theorem Low.uniq {T B T' B' : Int} (h : Low T B) (h' : Low T' B') (e : T * B' = T' * B) : T = T' ∧ B = B' := by
  have n : T.natAbs * B'.natAbs = T'.natAbs * B.natAbs := by rw [← Int.natAbs_mul, ← Int.natAbs_mul, e]
  have d1 : B.natAbs ∣ B'.natAbs := by
    have : B.natAbs ∣ T.natAbs * B'.natAbs := ⟨T'.natAbs, by rw [n, Nat.mul_comm]⟩
    exact (Nat.Coprime.symm h.cop).dvd_of_dvd_mul_left this
  have d2 : B'.natAbs ∣ B.natAbs := by
    have : B'.natAbs ∣ T'.natAbs * B.natAbs := ⟨T.natAbs, by rw [← n, Nat.mul_comm]⟩
    exact (Nat.Coprime.symm h'.cop).dvd_of_dvd_mul_left this
  have eB : B = B' := by
    have := Nat.dvd_antisymm d1 d2
    have p1 := h.pos
    have p2 := h'.pos
    omega
  subst eB
  have hB : B ≠ 0 := by have := h.pos; omega
  exact ⟨Int.eq_of_mul_eq_mul_right hB e, rfl⟩
theorem Low.neg {T B : Int} (h : Low T B) : Low (-T) B := ⟨h.pos, by rw [Int.natAbs_neg]; exact h.cop⟩
/-- a = n / d and b = n / d -/
theorem cross {a b n d x y : Int} (hb : b ≠ 0) (h1 : a * d = n * b) (h2 : n * y = x * d) (hd : d ≠ 0) : a * y = x * b := by
  have : (a * y) * d = (x * b) * d := by
    calc (a * y) * d = (a * d) * y := by rw [Int.mul_assoc, Int.mul_comm y, ← Int.mul_assoc]
      _ = (n * b) * y := by rw [h1]
      _ = (n * y) * b := by rw [Int.mul_assoc, Int.mul_comm b, ← Int.mul_assoc]
      _ = (x * d) * b := by rw [h2]
      _ = (x * b) * d := by rw [Int.mul_assoc, Int.mul_comm d, ← Int.mul_assoc]
  exact Int.eq_of_mul_eq_mul_right hd this
end PA

set_option maxHeartbeats 4000000
namespace PA
open PySem L2 RZ
open C8 (pss_cut tCut)
def top (i : Nat) : Stmt := PySem.Challenge.pw_pairahead_k21_row_sets_compared.main.body.getD i (.Pass ⟨0, 0, 0, 0⟩)
abbrev sIsInt : Stmt := top 5
abbrev sBelow : Stmt := top 6
abbrev sAfter : Stmt := top 10
abbrev sInit : Stmt := inClass (top 23) 0
abbrev sHas : Stmt := inClass (top 23) 5
abbrev sCheck : Stmt := top 24
abbrev sIsRow : Stmt := top 25
/-! ### data: entries, lines -/
abbrev Ln := Option Nat × Option Nat
def ev : Option Nat → V
  | none => .non
  | some n => .int (n : Int)
def lv (l : Ln) : List V := [ev l.1, ev l.2]
def EOk (n : Nat) (o : Option Nat) : Prop := ∀ a, o = some a → a < n
def LOk (n : Nat) (l : Ln) : Prop := EOk n l.1 ∧ EOk n l.2
structure GoodL (ls : List Ln) : Prop where
  one : 1 ≤ ls.length
  most : ls.length ≤ 48
  ok : ∀ l ∈ ls, LOk ls.length l
abbrev isLn : Hp → Addr → Ln → Prop := TupOf lv
/-- the state behind one more call -/
def nxt (ls : List Ln) (s : Option Nat) (same : Bool) : Option Nat := s.bind fun i => (ls[i]?).bind fun l => if same = true then l.1 else l.2
def walk (ls : List Ln) : Option Nat → Int → List Int → Option Nat
  | s, _, [] => s
  | s, b, c :: r => walk ls (nxt ls s (decide (c = b))) c r
def aft (ls : List Ln) : List Int → Option Nat
  | [] => some 0
  | c :: r => walk ls (some 0) c r
structure Txt (K : PySem.W.Frag) (mg : Str → Option Value) : Prop where
  isi : mg "isinstance" = none
  int_ : mg "int" = none
  bool_ : mg "bool" = none
  list_ : mg "list" = none
  tup_ : mg "tuple" = none
  len_ : mg "len" = none
  all_ : mg "all" = none
  zip_ : mg "zip" = none
  range_ : mg "range" = none
  enum_ : mg "enumerate" = none
  most : ∃ t, mg "MOST_ROWS" = some (.int 48 t)
/-! ### promises -/
def spIsInt : Sp := fun vs H Q _ => ∃ i, vs = [.int i] ∧ Q (.bl true) H
def spBelow : Sp := fun vs H Q _ => ∃ v c : Int, vs = [.int v, .int c] ∧ 0 ≤ v ∧ v < c ∧ Q (.bl true) H
def spIsRow : Sp := fun vs H Q _ => ∃ (p : Addr) (l : Ln) (n : Nat), vs = [.ref p, .int (n : Int)] ∧ isLn H p l ∧ LOk n l ∧ ∀ H', Same H H' → Q (.bl true) H'
def spCheck : Sp := fun vs H Q _ => ∃ (R : Addr) (refs : List V) (ls : List Ln), vs = [.ref R] ∧ H R = some (.tup refs) ∧ Ea H isLn refs ls ∧ GoodL ls ∧ ∀ H', Same H H' → Q .non H'
section
variable {P : Program} {w : World} {K : PySem.W.Frag} {mg : Str → Option Value} {base : Heap} {C : Addr}
theorem scIsInt : FnScope ["value"] ["value"] (defScope sIsInt) := ⟨rfl, rfl, rfl, by decide +kernel, rfl, by decide +kernel, by decide +kernel⟩
theorem ok_isInt {f : Addr} {fd : FuncData} (F : Fun K "is_integer" "is_integer" sIsInt f fd) (T : Txt K mg) : FnOk P w K mg base CX0 1 f fd ["value"] spIsInt := by
  refine F.ok scIsInt (fun vs H Q E h => ?_) (fun cdv A outer s H vs Q E hr h => ?_)
  · obtain ⟨i, rfl, _⟩ := h
    rfl
  · obtain ⟨i, rfl, k⟩ := h
    refine ⟨_, pss_one (ps_ret (pe_and (pe_callB call_isi (by rfl) T.isi boot_isi (pa_cons (pv 0) (pa_cons (pe_bltn (v := .ty "int") (by rfl) T.int_ boot_int' rfl) pa_nil)))
      (pe_one (pe_not (pe_callB call_isi (by rfl) T.isi boot_isi (pa_cons (pv 0) (pa_cons (pe_bltn (v := .ty "bool") (by rfl) T.bool_ boot_bool' rfl) pa_nil))))))), ?_⟩
    refine ⟨_, rfl, _, _, _, _, _, rfl, .ty _, .base (.int i), kit_ty (b := "int") (r := true) (by decide +kernel), _, rfl, iteT ?_⟩
    exact ⟨_, rfl, _, _, _, _, _, rfl, .ty _, .base (.int i), kit_ty (b := "bool") (r := false) (by decide +kernel), _, rfl, k⟩
theorem scBelow : FnScope ["value", "count"] ["value", "count"] (defScope sBelow) := ⟨rfl, rfl, rfl, by decide +kernel, rfl, by decide +kernel, by decide +kernel⟩
theorem ok_below {f g : Addr} {fd gd : FuncData} (F : Fun K "is_below" "is_below" sBelow f fd) (T : Txt K mg) (D : Df K mg "is_integer" sIsInt g gd ["value"]) : FnOk P w K mg base CX0 2 f fd ["value", "count"] spBelow := by
  have G : FnOk P w K mg base CX0 1 g gd ["value"] spIsInt := ok_isInt D.F T
  refine F.ok scBelow (fun vs H Q E h => ?_) (fun cdv A outer s H vs Q E hr h => ?_)
  · obtain ⟨v, c, rfl, _⟩ := h
    rfl
  · obtain ⟨v, c, rfl, h0, h1, k⟩ := h
    refine ⟨_, pss_one (ps_ret (pe_and (pe_call G hr rfl D.M D.F.kp D.B .nil pass0 (pa_cons (pv 0) pa_nil)) (pe_one (pe_chain op_le op_lt pe_int (pv 0) (pv 1))))), ?_⟩
    refine ⟨_, rfl, v, rfl, _, rfl, iteT ?_⟩
    refine ⟨_, rfl, _, _, rfl, rfl, _, rfl, ifD_yes h0 ⟨_, rfl, _, _, rfl, rfl, ?_⟩⟩
    show Q (V.bl (decide (v < c))) H
    rw [decide_eq_true h1]
    exact k
theorem scIsRow : FnScope ["row", "count", "entry"] ["row", "count"] (defScope sIsRow) := ⟨rfl, rfl, rfl, by decide +kernel, rfl, by decide +kernel, by decide +kernel⟩
theorem ok_isRow {f g1 g2 : Addr} {fd gd1 gd2 : FuncData} (F : Fun K "_is_row" "_is_row" sIsRow f fd) (T : Txt K mg) (D1 : Df K mg "is_integer" sIsInt g1 gd1 ["value"]) (D2 : Df K mg "is_below" sBelow g2 gd2 ["value", "count"]) : FnOk P w K mg base CX0 3 f fd ["row", "count"] spIsRow := by
  have G2 : FnOk P w K mg base CX0 2 g2 gd2 ["value", "count"] spBelow := ok_below D2.F T D1
  refine F.ok scIsRow (fun vs H Q E h => ?_) (fun cdv A outer s H vs Q E hr h => ?_)
  · obtain ⟨p, _, _, rfl, _⟩ := h
    rfl
  · obtain ⟨p, l, n, rfl, hp, hl, kk⟩ := h
    refine ⟨_, pss_one (ps_ret (pe_and (pe_cmpR op_eq (pe_callB call_len_seq (by rfl) T.len_ PySem.boot_len (pa_cons (pv 0) pa_nil)) pe_int (nomark _))
      (pe_one (pe_callB (cr_all rfl) (by rfl) T.all_ boot_all' (pa_cons (pe_lc (own := [("entry", 2)]) (g := gName 2) (tt := tYes) (by rfl) scIsRow.nd (pi_sq (pv 0)) (blkOk_by (N := ["row", "count", "entry"]) (sc := defScope sIsRow) (by decide +kernel))
          (fun _ _ _ _ _ => pg_name (i := 2) scIsRow.nd rfl (Or.inl rfl)) (fun _ _ _ _ _ => pts_nil)
          (fun _ _ _ _ _ => pe_or (pe_cmp (pc_isN (pv 2))) (pe_one (pe_call G2 hr rfl D2.M D2.F.kp D2.B .nil pass0 (pa_cons (pv 2) (pa_cons (pv 1) pa_nil)))))) pa_nil))))), ?_⟩
    refine ⟨_, rfl, p, _, rfl, .inr (SqT.of hp), rfl, _, rfl, ifD_yes rfl ?_⟩
    refine ⟨.t, _, rfl, p, rfl, ⟨_, SqT.of hp⟩, fun Dd hD => ?_⟩
    refine lc_same (xs := lv l) (walk_k (k := .t)) (by show 2 ≤ sizeLine; decide) hD (fun H' s' => SqT.of (s' _ _ hp)) ((List.replicate 2 true).map V.bl) rfl (fun i x y H' Φ Ψ hx hy sm k => ?_) fun H' s' hd => ?_
    · have he : ∃ o, x = ev o ∧ EOk n o := by
        rcases i with _ | _ | i
        · cases hx; exact ⟨l.1, rfl, hl.1⟩
        · cases hx; exact ⟨l.2, rfl, hl.2⟩
        · cases hx
      have ey : y = .bl true := by
        rcases i with _ | _ | i
        · cases hy; rfl
        · cases hy; rfl
        · cases hy
      subst ey
      obtain ⟨o, rfl, ho⟩ := he
      refine ⟨rfl, ?_⟩
      dsimp only [tYes]
      rw [if_pos rfl]
      cases o with
      | none => exact ⟨_, rfl, true, rfl, iteT (k H' fun _ _ e => e)⟩
      | some a =>
        have ha := ho a rfl
        exact ⟨_, rfl, false, rfl, iteF ⟨_, rfl, _, rfl, (a : Int), (n : Int), rfl, by omega, by omega, k H' fun _ _ e => e⟩⟩
    · refine ⟨Dd, _, rfl, SqL.of hd, ?_⟩
      exact kk H' s'
theorem scCheck : FnScope ["rows", "row"] ["rows"] (defScope sCheck) := ⟨rfl, rfl, rfl, by decide +kernel, rfl, by decide +kernel, by decide +kernel⟩
theorem ok_check {f g1 g2 g3 : Addr} {fd gd1 gd2 gd3 : FuncData} (F : Fun K "_check_rows" "_check_rows" sCheck f fd) (T : Txt K mg) (D1 : Df K mg "is_integer" sIsInt g1 gd1 ["value"]) (D2 : Df K mg "is_below" sBelow g2 gd2 ["value", "count"]) (D3 : Df K mg "_is_row" sIsRow g3 gd3 ["row", "count"]) : FnOk P w K mg base CX0 4 f fd ["rows"] spCheck := by
  have G3 : FnOk P w K mg base CX0 3 g3 gd3 ["row", "count"] spIsRow := ok_isRow D3.F T D1 D2
  obtain ⟨tm, hmost⟩ := T.most
  refine F.ok scCheck (fun vs H Q E h => ?_) (fun cdv A outer s H vs Q E hr h => ?_)
  · obtain ⟨R, _, _, rfl, _⟩ := h
    rfl
  · obtain ⟨R, refs, ls, rfl, hR, hE, gd, kk⟩ := h
    refine ⟨_, pss_cons (ps_if (pt_not (pt_chain op_le op_le pe_int (pe_callB call_len_seq (by rfl) T.len_ PySem.boot_len (pa_cons (pv 0) pa_nil)) (pe_glob (v := .int 48) rfl hmost ⟨_, rfl⟩))) pss_never pss_nil)
      (pss_one (ps_if (pt_not (pt_val (pe_callB (cr_all rfl) (by rfl) T.all_ boot_all' (pa_cons (pe_lc (own := [("row", 1)]) (g := gName 1) (tt := tYes) (by rfl) scCheck.nd (pi_sq (pv 0)) (blkOk_by (N := ["rows", "row"]) (sc := defScope sCheck) (by decide +kernel))
          (fun _ _ _ _ _ => pg_name (i := 1) scCheck.nd rfl (Or.inl rfl)) (fun _ _ _ _ _ => pts_nil)
          (fun _ _ _ _ _ => pe_call G3 hr rfl D3.M D3.F.kp D3.B .nil pass0 (pa_cons (pv 1) (pa_cons (pe_callB (call_lenK (K := K) rfl) (by rfl) T.len_ PySem.boot_len (pa_cons (pv 0) pa_nil)) pa_nil)))) pa_nil)))) pss_never pss_nil)), ?_⟩
    have hlr : refs.length = ls.length := hE.1
    have h1 := gd.one
    have h48 := gd.most
    refine ⟨_, rfl, R, _, rfl, .inr (SqT.of hR), _, _, rfl, rfl, _, rfl, ifD_yes (by rw [hlr]; omega) ?_⟩
    refine ⟨_, _, rfl, rfl, _, rfl, ?_⟩
    rw [hlr]
    have h48' : ((ls.length : Int) ≤ 48) := by omega
    rw [decide_eq_true h48']
    refine iteF ?_
    refine ⟨.t, _, rfl, R, rfl, ⟨_, SqT.of hR⟩, fun Dd hD => ?_⟩
    refine lc_same (xs := refs) (walk_k (k := .t)) (by rw [hlr]; exact Nat.le_trans h48 (by decide)) hD (fun H' s' => SqT.of (s' _ _ hR)) ((List.replicate refs.length true).map V.bl) (by simp) (fun i x y H' Φ Ψ hx hy sm k => ?_) fun H' s' hd => ?_
    · obtain ⟨c, l, rfl, hl, hc⟩ := hE.at_ hx
      have ey : y = .bl true := by
        rw [List.getElem?_map, Option.map_eq_some_iff] at hy
        obtain ⟨b, hb, rfl⟩ := hy
        rw [(List.mem_replicate.mp (List.mem_of_getElem? hb)).2]
      subst ey
      refine ⟨rfl, ?_⟩
      dsimp only [tYes]
      rw [if_pos rfl]
      refine ⟨_, rfl, _, rfl, R, _, rfl, .inr (SqT.of (sm _ _ hR)), c, l, ls.length, congrArg (fun z : Nat => [V.ref c, V.int (z : Int)]) hlr, sm _ _ hc, gd.ok l (List.mem_of_getElem? hl), k⟩
    · refine ⟨Dd, _, rfl, SqL.of hd, ?_⟩
      rw [all_true]
      exact ⟨true, rfl, iteF (kk H' s')⟩
end
end PA

set_option maxHeartbeats 4000000
namespace PA
open PySem L2 RZ
open C8 (pss_cut tCut)
/-- a tuple or a list at c of what r is written as -/
def TLOf {α : Type} (f : α → List V) (H : Hp) (c : Addr) (r : α) : Prop := H c = some (.tup (f r)) ∨ H c = some (.lst (f r))
def rsf (T : Addr) : List (Str × V) := putF "rows" (.ref T) []
theorem rsf_rows (T : Addr) : (rsf T).lookup ("rows" : Str) = some (.ref T) := by
  unfold rsf
  rw [lookup_putF, if_pos rfl]
theorem rsf_no (T : Addr) {m : Str} (h1 : ¬ m = "rows") : (rsf T).lookup m = none := by
  unfold rsf
  rw [lookup_putF, if_neg h1]
  all_goals rfl
/-- a RowSet of these lines stands at p -/
def SetAt (C : Addr) (H : Hp) (p : Addr) (ls : List Ln) : Prop := ∃ dx T refs, H p = some (.ins C dx (rsf T)) ∧ H T = some (.tup refs) ∧ Ea H isLn refs ls
theorem SetAt.same {C : Addr} {H H' : Hp} {p : Addr} {ls : List Ln} (m : SetAt C H p ls) (s : Same H H') : SetAt C H' p ls := by
  obtain ⟨dx, T, refs, h1, h2, h3⟩ := m
  exact ⟨dx, T, refs, s _ _ h1, s _ _ h2, h3.same s⟩
theorem SetAt.nl {C : Addr} {H H' : Hp} {p : Addr} {ls : List Ln} (m : SetAt C H p ls) (nl : ∀ c o, H c = some o → (∀ xs, o ≠ .lst xs) → H' c = some o) : SetAt C H' p ls := by
  obtain ⟨dx, T, refs, h1, h2, h3⟩ := m
  exact ⟨dx, T, refs, nl _ _ h1 (by intro xs e; cases e), nl _ _ h2 (by intro xs e; cases e), h3.imp fun c r q => nl _ _ q (by intro xs e; cases e)⟩
/-- what the class RowSet is, and Found -/
structure TxtC (K : PySem.W.Frag) (mg : Str → Option Value) (C Fo : Addr) : Prop where
  cl : Cls K C
  nR : NoAttr K C "rows"
  mgC : mg "RowSet" = some (.ref C)
  mgF : mg "Found" = some (.ref Fo)
  kl : PySem.W.kitOne K (.type "list") (.ref Fo) = some false
  kt : PySem.W.kitOne K (.type "tuple") (.ref Fo) = some false
def spInit (K : PySem.W.Frag) (C : Addr) : Sp := fun vs H Q _ => ∃ (p dx L : Addr) (refs : List V) (ls : List Ln), vs = [.ref p, .ref L] ∧ H p = some (.ins C dx []) ∧ (H L = some (.lst refs) ∨ H L = some (.tup refs)) ∧ Ea H (TLOf lv) refs ls ∧ GoodL ls ∧
  ∀ H', (∃ T refs', H' p = some (.ins C dx (rsf T)) ∧ H' T = some (.tup refs') ∧ Ea H' isLn refs' ls) → (∀ c o, H c = some o → c ≠ p → H' c = some o) → Q .non H'
section
variable {P : Program} {w : World} {K : PySem.W.Frag} {mg : Str → Option Value} {base : Heap} {C Fo : Addr}
theorem scInit : FnScope ["self", "rows", "row"] ["self", "rows"] (defScope sInit) := ⟨rfl, rfl, rfl, by decide +kernel, rfl, by decide +kernel, by decide +kernel⟩
theorem ok_init {f g1 g2 g3 g4 : Addr} {fd gd1 gd2 gd3 gd4 : FuncData} (F : Fun K "__init__" "RowSet.__init__" sInit f fd) (T : Txt K mg) (TC : TxtC K mg C Fo) (D1 : Df K mg "is_integer" sIsInt g1 gd1 ["value"]) (D2 : Df K mg "is_below" sBelow g2 gd2 ["value", "count"]) (D3 : Df K mg "_is_row" sIsRow g3 gd3 ["row", "count"]) (D4 : Df K mg "_check_rows" sCheck g4 gd4 ["rows"]) :
    FnOk P w K mg base CX0 5 f fd ["self", "rows"] (spInit K C) := by
  have G4 : FnOk P w K mg base CX0 4 g4 gd4 ["rows"] spCheck := ok_check D4.F T D1 D2 D3
  refine F.ok scInit (fun vs H Q E h => ?_) (fun cdv A outer s H vs Q E hr h => ?_)
  · obtain ⟨p, dx, L, _, _, rfl, _⟩ := h
    rfl
  · obtain ⟨p, dx, L, refs, ls, rfl, hp, hL, hE, gd, kk⟩ := h
    refine ⟨_, pss_one (ps_if (pt_val (pe_callB call_isi (by rfl) T.isi boot_isi (pa_cons (pv 1) (pa_cons (pe_glob (v := .ref Fo) rfl TC.mgF rfl) pa_nil)))) pss_never
        (pss_cons (ps_fld (pv 0) (pe_callTy call_tuple_of (by rfl) T.tup_ boot_tuple' (pa_cons (pe_lc (own := [("row", 2)]) (g := gName 2) (tt := tYes) (by rfl) scInit.nd (pi_sq (pv 1)) (blkOk_by (N := ["self", "rows", "row"]) (sc := defScope sInit) (by decide +kernel))
          (fun _ _ _ _ _ => pg_name (i := 2) scInit.nd rfl (Or.inl rfl)) (fun _ _ _ _ _ => pts_nil)
          (fun _ _ _ _ _ => pe_callTy (call_tupleK (K := K) rfl) (by rfl) T.tup_ boot_tuple' (pa_cons (pv 2) pa_nil))) pa_nil)) rfl)
        (pss_one (ps_expr (pe_call G4 hr rfl D4.M D4.F.kp D4.B .nil pass0 (pa_cons (pe_fld (pv 0) rfl) pa_nil)))))), ?_⟩
    have hlr : refs.length = ls.length := hE.1
    have hsz : refs.length ≤ sizeLine := by rw [hlr]; exact Nat.le_trans gd.most (by decide)
    obtain ⟨k, hk, hty⟩ : ∃ k, Sk K k H L refs ∧ ∃ t, TyX K H (.ref L) (.type t) ∧ PySem.W.kitOne K (.type t) (.ref Fo) = some false := by
      rcases hL with hL | hL
      · exact ⟨.l, SqL.of hL, "list", .base (.lst hL), TC.kl⟩
      · exact ⟨.t, SqT.of hL, "tuple", .base (.tup hL), TC.kt⟩
    obtain ⟨t, ht, hkit⟩ := hty
    refine ⟨_, rfl, _, _, _, _, _, rfl, .own Fo, ht, hkit, _, rfl, iteF ?_⟩
    refine ⟨k, _, rfl, L, rfl, ⟨_, hk⟩, fun Dd hD => ?_⟩
    refine lc_acc (xs := refs) (walk_k (k := k)) hsz hD (fun H' s' => hk.up s') (fun i acc H' => Ea H' isLn acc (ls.take i)) (fun i acc H' e => by rw [e.1, List.length_take]; omega) (by rw [List.take_zero]; exact Ea.nil) (fun i x H' acc Φ Ψ hi hx sm hd he kf => ?_) fun H1 acc s1 hd he => ?_
    · obtain ⟨c, l, rfl, hl, hc⟩ := hE.at_ hx
      refine ⟨rfl, ?_⟩
      dsimp only [tYes]
      rw [if_pos rfl]
      rcases hc with hc | hc
      · refine ⟨_, rfl, c, _, rfl, .inr ⟨SqT.of (sm _ _ hc), kf _ H' (fun _ _ e => e) hd fun H5 h5 b1 b2 => ?_⟩⟩
        rw [take_succ' hl]
        exact Ea.push (he.imp fun c' r' q => TupOf.but q hd b1) (TupOf.but (f := lv) (sm _ _ hc) hd b1)
      · refine ⟨_, rfl, c, _, rfl, .inl ⟨SqL.of (sm _ _ hc), fun q hq => ?_⟩⟩
        have sq := new_ (o := .tup (lv l)) hq
        refine kf _ _ sq (sq _ _ hd) fun H5 h5 b1 b2 => ?_
        rw [take_succ' hl]
        exact Ea.push (he.imp fun c' r' z => TupOf.but (f := lv) (sq _ _ z) (sq _ _ hd) b1) (TupOf.but (f := lv) upd_same (sq _ _ hd) b1)
    · rw [hlr, List.take_length] at he
      refine ⟨Dd, _, rfl, .inl ⟨SqL.of hd, fun l hl => ?_⟩⟩
      have sl := new_ (o := .tup acc) hl
      have hp1 := sl _ _ (s1 _ _ hp)
      refine ⟨_, rfl, p, C, dx, _, rfl, hp1, TC.cl, TC.nR, (by show 0 < 1000; decide), ?_⟩
      have hl1 : ∀ o : HO, (upd (upd H1 l (.tup acc)) p o) l = some (.tup acc) := fun o => by
        rw [upd_ne (ne_of hp1 upd_same (by intro z; cases z)).symm]
        exact upd_same
      refine ⟨_, rfl, p, C, dx, _, _, rfl, upd_same, TC.cl, TC.nR, rsf_rows l, l, acc, ls, rfl, hl1 _, ?_, gd, fun H2 s2 => ?_⟩
      · exact (he.same sl).imp fun c r q => TupOf.ins q hp1
      · refine kk H2 ⟨l, acc, s2 _ _ upd_same, s2 _ _ (hl1 _), ?_⟩ fun c o e hc => s2 _ _ (by rw [upd_ne hc]; exact sl _ _ (s1 _ _ e))
        exact ((he.same sl).imp fun c r q => TupOf.ins (f := lv) q hp1).same s2
end
end PA

set_option maxHeartbeats 2000000
namespace PA
open PySem L2 RZ
open C8 (pss_cut tCut)
abbrev sDraw : Stmt := top 30
abbrev sStart : Stmt := top 31
abbrev sMixed : Stmt := top 32
abbrev sSame : Stmt := top 33
abbrev sEntry : Stmt := top 34
abbrev sLines : Stmt := top 35
abbrev sWithin : Stmt := top 36
abbrev sNear : Stmt := top 37
abbrev sLaw : Stmt := top 38
/-! ### data of ints -/
theorem ints_lay : ∀ ns : List Int, PyData.canLayAll0 (ns.map PyData.int) = true
  | [] => by simp [PyData.canLayAll0]
  | z :: zs => by simp [PyData.canLayAll0, PyData.canLay0, ints_lay zs]
theorem ints_depth : ∀ ns : List Int, PyData.depthAll (ns.map PyData.int) ≤ 2
  | [] => by simp [PyData.depthAll]
  | z :: zs => by
    have h1 := ints_depth zs
    simp only [List.map_cons, PyData.depthAll, PyData.depth]
    omega
theorem ints_shaped (ns : List Int) : SeqAt.shaped (.list (ns.map PyData.int)) = true := by
  have h1 := ints_depth ns
  have h2 : PyData.depth (.list (ns.map PyData.int)) ≤ 64 := by
    simp only [PyData.depth]
    omega
  show (PyData.canLay0 (.list (ns.map PyData.int)) && decide (PyData.depth (.list (ns.map PyData.int)) ≤ 64)) = true
  rw [Bool.and_eq_true]
  exact ⟨by simp only [PyData.canLay0]; exact ints_lay ns, decide_eq_true h2⟩
theorem dp_ints {K : PySem.W.Frag} {H : Hp} : ∀ ns : List Int, DpAll K H (ns.map V.int) (ns.map PyData.int)
  | [] => .nil
  | z :: zs => .cons (.int z) (dp_ints zs)
theorem ints_nil (ns : List Int) : PyData.eqv (.list (ns.map PyData.int)) (.list []) = ns.isEmpty := by
  cases ns with
  | nil => simp [PyData.eqv, PyData.eqvAll]
  | cons z zs => simp [PyData.eqv, PyData.eqvAll]
/-! ### the stream of draws: the list at a, the numbers left at l, n draws made -/
def StreamAt (H : Hp) (a l : Addr) (n : Nat) : Prop := a ≠ l ∧ ∃ (ns : List Int) (x z : Int), H a = some (.lst [.ref l, .int x, .int (n : Int), .int z]) ∧ H l = some (.lst (ns.map V.int)) ∧ ns.length ≤ 63 ∧ 0 ≤ x ∧ 0 ≤ z ∧ z < 2147483647
/-- all but the stream is kept -/
def Keep (a l : Addr) (H H' : Hp) : Prop := ∀ c o, c ≠ a → c ≠ l → H c = some o → H' c = some o
theorem Keep.refl (a l : Addr) (H : Hp) : Keep a l H H := fun _ _ _ _ h => h
theorem Keep.trans {a l : Addr} {H H1 H2 : Hp} (h : Keep a l H H1) (h' : Keep a l H1 H2) : Keep a l H H2 := fun c o x y e => h' c o x y (h c o x y e)
theorem Keep.of {a l : Addr} {H H' : Hp} (h : Same H H') : Keep a l H H' := fun c o _ _ e => h c o e
theorem StreamAt.same {H H' : Hp} {a l : Addr} {n : Nat} (h : StreamAt H a l n) (s : Same H H') : StreamAt H' a l n := by
  obtain ⟨ne, ns, x, z, h1, h2, h3⟩ := h
  exact ⟨ne, ns, x, z, s _ _ h1, s _ _ h2, h3⟩
def spDraw : Sp := fun vs H Q _ => ∃ (a l : Addr) (n : Nat) (many : Int), vs = [.ref a, .int many] ∧ StreamAt H a l n ∧ n ≤ 100000 ∧ 0 < many ∧ Sm 9000 many ∧
  ∀ (r : Int) (H' : Hp), 0 ≤ r → r < many → StreamAt H' a l (n + 1) → Keep a l H H' → Q (.int r) H'
section
variable {P : Program} {w : World} {K : PySem.W.Frag} {mg : Str → Option Value} {base : Heap} {C : Addr}
theorem scDraw : FnScope ["_law_stream", "_law_many", "_law_digit", "_law_mixed_here"] ["_law_stream", "_law_many"] (defScope sDraw) := ⟨rfl, rfl, rfl, by decide +kernel, rfl, by decide +kernel, by decide +kernel⟩
theorem ok_draw {f : Addr} {fd : FuncData} (F : Fun K "_law_draw" "_law_draw" sDraw f fd) (T : Txt K mg) : FnOk P w K mg base CX0 1 f fd ["_law_stream", "_law_many"] spDraw := by
  refine F.ok scDraw (fun vs H Q E h => ?_) (fun cdv A outer s H vs Q E hr h => ?_)
  · obtain ⟨a, l, n, many, rfl, _⟩ := h
    rfl
  · obtain ⟨a, l, n, many, rfl, ⟨ne, ns, x, z, h1, h2, hl, hx, hz0, hz1⟩, hn, hm, hms, k⟩ := h
    have hW : ∀ j : Int, CDivW j many := fun j => ⟨hm, Nat.lt_of_lt_of_le (PySem.Flt.log2_lt_of (by decide) hms) (Nat.le_refl _)⟩
    refine ⟨_, pss_cut (ps_asg (pe_op op_add (pe_ix ix_list (pv 0) pe_int (fun _ _ => rfl)) pe_int) (pg_sub (pv 0) pe_int set_list))
      (pss_cut (ps_if (PW.pt (pw_and (pt_cmpR op_eq (pe_ix ix_list (pv 0) pe_int (fun _ _ => rfl)) pe_int (nomark _)) (pw_and1 (pt_cmpR (op_neD hr.units) (pe_ix ix_list (pv 0) pe_int (fun _ _ => rfl)) (pe_lst pa_nil) (nomark _)))))
        (pss_cons (ps_asg (pe_bm PySem.F.plainAttrs_list PySem.F.slot_list_pop PySem.F.type_list_pop mt_popAt (pe_ix ix_list (pv 0) pe_int (fun _ _ => rfl)) (pa_cons pe_int pa_nil)) (pg_sub (pv 0) pe_int set_list))
          (pss_one (ps_if (pt_cmpR op_lt (pe_ix ix_list (pv 0) pe_int (fun _ _ => rfl)) (pe_op op_pow pe_int pe_int) (nomark _))
            (pss_cons (ps_asg (pe_op op_mod (pe_callTy call_int1 (by rfl) T.int_ boot_int' (pa_cons (pe_op op_add (pe_op op_add (pe_op op_mul (pe_ix ix_list (pv 0) pe_int (fun _ _ => rfl)) pe_int) (pe_ix ix_list (pv 0) pe_int (fun _ _ => rfl))) pe_int) pa_nil)) pe_int) (pg_sub (pv 0) pe_int set_list))
              (pss_one (ps_asg pe_int (pg_sub (pv 0) pe_int set_list)))) pss_nil))) pss_nil)
      (pss_cons (ps_if (pt_cmpR op_gt (pe_ix ix_list (pv 0) pe_int (fun _ _ => rfl)) pe_int (nomark _))
        (pss_cons (ps_set (i := 2) scDraw.nd rfl (Or.inl rfl) (pe_op op_mod (pe_callTy call_int1 (by rfl) T.int_ boot_int' (pa_cons (pe_ix ix_list (pv 0) pe_int (fun _ _ => rfl)) pa_nil)) (pv 1)))
          (pss_cons (ps_asg (pe_op op_fdivW (pe_ix ix_list (pv 0) pe_int (fun _ _ => rfl)) (pv 1)) (pg_sub (pv 0) pe_int set_list))
            (pss_one (ps_ret (pv 2))))) pss_nil)
      (pss_cons (ps_set (i := 3) scDraw.nd rfl (Or.inl rfl) (pe_op op_mod (pe_op op_pow (pe_op op_add (pe_op op_add (pe_ix ix_list (pv 0) pe_int (fun _ _ => rfl)) (pe_op op_mul pe_int (pe_ix ix_list (pv 0) pe_int (fun _ _ => rfl)))) pe_int) pe_int) pe_int))
      (pss_one (ps_ret (pe_op op_mod (pe_op op_mod (pe_op op_pow (pe_op op_add (pe_op op_add (pe_op op_mul (pv 3) pe_int) (pe_op op_mul (pe_op op_mul pe_int (pe_ix ix_list (pv 0) pe_int (fun _ _ => rfl))) (pe_ix ix_list (pv 0) pe_int (fun _ _ => rfl)))) pe_int) pe_int) pe_int) (pv 1))))))), ?_⟩
    refine ⟨fun σ' H' => σ' = [some (V.ref a), some (V.int many), none, none] ∧ H' = upd H a (.lst [.ref l, .int x, .int ((n : Int) + 1), .int z]), ?_, ?_⟩
    · exact ⟨_, rfl, a, _, 2, _, rfl, rfl, SqL.of h1, rfl, _, _, rfl, rfl, _, rfl, a, _, 2, 2, rfl, rfl, h1, rfl, rfl, rfl⟩
    rintro _ _ ⟨rfl, rfl⟩
    refine ⟨fun σ' H' => σ' = [some (V.ref a), some (V.int many), none, none] ∧ ∃ (ns' : List Int) (x' z' : Int), H' a = some (.lst [.ref l, .int x', .int ((n : Int) + 1), .int z']) ∧ H' l = some (.lst (ns'.map V.int)) ∧ ns'.length ≤ 63 ∧ 0 ≤ x' ∧ 0 ≤ z' ∧ z' < 2147483647 ∧ Keep a l H H', ?_, ?_⟩
    · have kp1 : Keep a l H (upd H a (.lst [.ref l, .int x, .int ((n : Int) + 1), .int z])) := fun c o ca _ e => by rw [upd_ne ca]; exact e
      have hl1 : (upd H a (.lst [.ref l, .int x, .int ((n : Int) + 1), .int z])) l = some (.lst (ns.map V.int)) := by rw [upd_ne ne.symm]; exact h2
      refine ⟨_, rfl, a, _, 1, _, rfl, rfl, SqL.of upd_same, rfl, rfl, _, rfl, ifD_2 (fun hx0 => ?_) (fun _ => iteF ?_)⟩
      · refine ⟨_, rfl, a, _, 0, _, rfl, rfl, SqL.of upd_same, rfl, Nat.zero_le _, fun p hp => ?_⟩
        have npa : a ≠ p := fun e => by rw [← e, upd_same] at hp; cases hp
        have npl : l ≠ p := ne_of_none hl1 hp
        have kp2 : Keep a l H (upd (upd H a (.lst [.ref l, .int x, .int ((n : Int) + 1), .int z])) p (.lst [])) := fun c o ca cl e => by
          rw [upd_ne (ne_of_none (kp1 c o ca cl e) hp)]; exact kp1 c o ca cl e
        refine ⟨.list (ns.map PyData.int), .list [], .lst (SqL.of (by rw [upd_ne npl]; exact hl1)) (dp_ints ns), .lst (SqL.of upd_same) .nil, ints_shaped ns, ints_shaped [], _, rfl, ?_⟩
        rw [ints_nil]
        cases ns with
        | nil => exact iteF ⟨rfl, [], x, z, by rw [upd_ne npa, upd_same], by rw [upd_ne npl]; exact hl1, Nat.zero_le _, hx, hz0, hz1, kp2⟩
        | cons y ys =>
          refine iteT ?_
          have ga : (upd (upd H a (.lst [.ref l, .int x, .int ((n : Int) + 1), .int z])) p (.lst [])) a = some (.lst [.ref l, .int x, .int ((n : Int) + 1), .int z]) := by rw [upd_ne npa, upd_same]
          have gl : (upd (upd H a (.lst [.ref l, .int x, .int ((n : Int) + 1), .int z])) p (.lst [])) l = some (.lst ((y :: ys).map V.int)) := by rw [upd_ne npl]; exact hl1
          generalize (upd (upd H a (.lst [.ref l, .int x, .int ((n : Int) + 1), .int z])) p (.lst [])) = Hb at ga gl kp2
          refine ⟨_, rfl, a, _, 0, _, rfl, rfl, SqL.of ga, rfl, .inl ⟨rfl, _, SqL.of gl⟩, l, _, 0, 0, .int y, rfl, rfl, gl, by decide, by decide, (ixN_seq (Evl.ixN_nat (j := 0) (by simp))).1, rfl, ?_⟩
          have ga2 : (upd Hb l (.lst (((y :: ys).map V.int).eraseIdx 0))) a = some (.lst [.ref l, .int x, .int ((n : Int) + 1), .int z]) := by rw [upd_ne ne]; exact ga
          refine ⟨_, rfl, a, _, 1, 1, rfl, rfl, ga2, rfl, ?_⟩
          have kp3 : ∀ o, Keep a l H (upd (upd Hb l (.lst (((y :: ys).map V.int).eraseIdx 0))) a o) := fun o c u ca cl e => by rw [upd_ne ca, upd_ne cl]; exact kp2 c u ca cl e
          have gl3 : ∀ o, (upd (upd Hb l (.lst (((y :: ys).map V.int).eraseIdx 0))) a o) l = some (.lst (ys.map V.int)) := fun o => by rw [upd_ne ne.symm, upd_same]; rfl
          have hys : ys.length ≤ 63 := Nat.le_trans (Nat.le_succ _) hl
          refine ⟨_, rfl, a, _, 1, _, rfl, rfl, SqL.of upd_same, rfl, 10, 18, rfl, rfl, (by show CPow 10 18; unfold CPow; decide), _, _, rfl, rfl, _, rfl, ifD_2 (fun hy => ?_) (fun hy => ?_)⟩
          · refine ⟨_, rfl, a, _, 3, _, rfl, rfl, SqL.of upd_same, rfl, _, _, rfl, rfl, .inr (by decide), _, rfl, a, _, 1, _, rfl, rfl, SqL.of upd_same, rfl, _, _, rfl, rfl, _, _, rfl, rfl, .inl ⟨_, rfl, _, _, rfl, rfl, (by show (0 : Int) < 2147483647; decide), _, rfl, a, _, 3, 3, rfl, rfl, upd_same, rfl, ?_⟩⟩
            refine ⟨_, rfl, a, _, 1, 1, rfl, rfl, upd_same, rfl, ?_⟩
            rw [upd_upd, upd_upd]
            exact ⟨rfl, ys, 0, (z * 31 + y + 7) % 2147483647, upd_same, gl3 _, hys, by decide, Int.emod_nonneg _ (by decide), Int.emod_lt_of_pos _ (by decide), kp3 _⟩
          · exact ⟨rfl, ys, y, z, upd_same, gl3 _, hys, by
              have h18 : (0 : Int) ≤ 10 ^ (18 : Int).toNat := by decide
              omega, hz0, hz1, kp3 _⟩
      · exact ⟨rfl, ns, x, z, upd_same, hl1, hl, hx, hz0, hz1, kp1⟩
    rintro _ H1 ⟨rfl, ns', x', z', g1, g2, gl, gx, gz0, gz1, kp⟩
    refine ⟨_, rfl, a, _, 1, _, rfl, rfl, SqL.of g1, rfl, _, _, rfl, rfl, _, rfl, ifD_2 (fun hp => ?_) (fun _ => ?_)⟩
    · refine ⟨_, rfl, a, _, 1, _, rfl, rfl, SqL.of g1, rfl, .inl ⟨_, rfl, _, rfl, _, _, rfl, rfl, hm, ?_⟩⟩
      refine ⟨_, rfl, a, _, 1, _, rfl, rfl, SqL.of g1, rfl, _, rfl, _, _, rfl, rfl, hW _, _, rfl, a, _, 1, 1, rfl, rfl, g1, rfl, _, rfl, ?_⟩
      refine k (x' % many) _ (Int.emod_nonneg _ (by omega)) (Int.emod_lt_of_pos _ hm) ⟨ne, ns', x' / many, z', upd_same, by rw [upd_ne ne.symm]; exact g2, gl, Int.ediv_nonneg gx (by omega), gz0, gz1⟩ fun c o ca cl e => by
        rw [upd_ne ca]; exact kp c o ca cl e
    · have hn' : (n : Int) ≤ 100000 := by omega
      have hn0 : (0 : Int) ≤ n := by omega
      refine ⟨_, rfl, a, _, 3, _, rfl, rfl, SqL.of g1, rfl, _, rfl, a, _, 2, _, rfl, rfl, SqL.of g1, rfl, _, _, rfl, rfl, .inl (by decide), _, _, rfl, rfl, _, _, rfl, rfl, _, _, rfl, rfl, ?_, _, _, rfl, rfl, (by show (0 : Int) < 2147483629; decide), ?_⟩
      · show CPow _ 5
        refine ⟨by decide, by decide, ?_⟩
        have e64 : (2 : Nat) ^ 64 = 18446744073709551616 := by decide
        rw [e64]
        omega
      · generalize hmx : ((z' + 104729 * ((n : Int) + 1) + 17) ^ (5 : Int).toNat) % 2147483629 = mx
        have m0 : 0 ≤ mx := by rw [← hmx]; exact Int.emod_nonneg _ (by decide)
        have m1 : mx < 2147483629 := by rw [← hmx]; exact Int.emod_lt_of_pos _ (by decide)
        refine ⟨_, rfl, _, _, rfl, rfl, .inr (by decide), _, rfl, a, _, 2, _, rfl, rfl, SqL.of g1, rfl, _, _, rfl, rfl, .inl (by decide), _, rfl, a, _, 2, _, rfl, rfl, SqL.of g1, rfl, _, _, rfl, rfl, .inr ?_, _, _, rfl, rfl, _, _, rfl, rfl, _, _, rfl, rfl, ?_, _, _, rfl, rfl, (by show (0 : Int) < 1000000007; decide), _, rfl, _, _, rfl, rfl, hm, ?_⟩
        · have e64 : (2 : Int) ^ 64 = 18446744073709551616 := by decide
          rw [e64]
          omega
        · show CPow _ 3
          refine ⟨by decide, by decide, ?_⟩
          have e64 : (2 : Nat) ^ 64 = 18446744073709551616 := by decide
          rw [e64]
          have q0 : 0 ≤ 40503 * ((n : Int) + 1) * ((n : Int) + 1) := Int.mul_nonneg (by omega) (by omega)
          have q1 : 40503 * ((n : Int) + 1) * ((n : Int) + 1) ≤ 40503 * 100001 * 100001 := Int.mul_le_mul (by omega) (by omega) (by omega) (by decide)
          omega
        · exact k _ _ (Int.emod_nonneg _ (by omega)) (Int.emod_lt_of_pos _ hm) ⟨ne, ns', x', z', g1, g2, gl, gx, gz0, gz1⟩ kp
end
theorem sm9000 {x : Int} {n : Nat} (h : Sm n x) (hn : n ≤ 9000) : Sm 9000 x := h.mono hn
theorem sm_small {x : Int} (h : x.natAbs < 8) : Sm 9000 x := sm9000 (n := 3) h (by decide)
def spStart (K : PySem.W.Frag) : Sp := fun vs H Q _ => ∃ (p : Addr) (ns : List Int), vs = [.ref p] ∧ SqL K H p (ns.map V.int) ∧ ns.length ≤ 63 ∧ ∀ (a l : Addr) (H' : Hp), StreamAt H' a l 0 → H a = none → H l = none → Same H H' → Q (.ref a) H'
section
variable {P : Program} {w : World} {K : PySem.W.Frag} {mg : Str → Option Value} {base : Heap} {C : Addr}
theorem scStart : FnScope ["_law_script"] ["_law_script"] (defScope sStart) := ⟨rfl, rfl, rfl, by decide +kernel, rfl, by decide +kernel, by decide +kernel⟩
theorem ok_start {f : Addr} {fd : FuncData} (F : Fun K "_law_start" "_law_start" sStart f fd) (T : Txt K mg) : FnOk P w K mg base CX0 1 f fd ["_law_script"] (spStart K) := by
  refine F.ok scStart (fun vs H Q E h => ?_) (fun cdv A outer s H vs Q E hr h => ?_)
  · obtain ⟨p, ns, rfl, _⟩ := h
    rfl
  · obtain ⟨p, ns, rfl, hS, hl, k⟩ := h
    refine ⟨_, pss_one (ps_ret (pe_lst (pa_cons (pe_callTy call_list_of (by rfl) T.list_ boot_list' (pa_cons (pv 0) pa_nil)) (pa_cons pe_int (pa_cons pe_int (pa_cons pe_int pa_nil)))))), ?_⟩
    refine ⟨_, rfl, p, _, rfl, .inl hS, fun l hl' => ⟨by show 4 ≤ sizeLine; decide, fun a ha => ?_⟩⟩
    have nal : a ≠ l := fun e => by rw [e, upd_same] at ha; cases ha
    have ha0 : H a = Option.none := by rw [upd_ne nal] at ha; exact ha
    exact k a l _ ⟨nal, ns, 0, 0, upd_same, by rw [upd_ne nal.symm, upd_same], hl, by decide, by decide, by decide⟩ ha0 hl' ((new_ hl').trans (new_ ha))
end
theorem StreamAt.ne {H : Hp} {a l p : Addr} {n : Nat} (S : StreamAt H a l n) (h : H p = none) : p ≠ a ∧ p ≠ l := by
  obtain ⟨ne, ns, x, z, h1, h2, _⟩ := S
  exact ⟨(ne_of_none h1 h).symm, (ne_of_none h2 h).symm⟩
theorem sm48 {z : Int} (h1 : 1 ≤ z) (h2 : z ≤ 48) : Sm 9000 z := by
  refine sm9000 (n := 6) ?_ (by decide)
  have e : (2 : Nat) ^ 6 = 64 := by decide
  show z.natAbs < 2 ^ 6
  rw [e]
  omega
theorem StreamAt.at_ {H : Hp} {a l : Addr} {n m : Nat} (S : StreamAt H a l n) (e : n = m) : StreamAt H a l m := e ▸ S
theorem StreamAt.lst {H : Hp} {a l p : Addr} {n : Nat} {xs ys : List V} (S : StreamAt H a l n) (hp : H p = some (.lst xs)) (pa : p ≠ a) (pl : p ≠ l) : StreamAt (upd H p (.lst ys)) a l n := by
  obtain ⟨ne, ns, x, z, h1, h2, h3⟩ := S
  exact ⟨ne, ns, x, z, by rw [upd_ne pa.symm]; exact h1, by rw [upd_ne pl.symm]; exact h2, h3⟩

end PA

set_option maxHeartbeats 4000000
namespace PA
open PySem L2 RZ
/-! ### a comprehension over zip -/
section
variable {K : PySem.W.Frag} {a b : Addr} {xs ys : List V} {g : TG} {tt : TT} {te : TE} {vs : List Nat} {σ : L2.St} {H1 : Hp} {D : Addr} {Qd : Hp → Prop}
theorem lc_zipL (hl : xs.length = ys.length) (Pv : Nat → Hp → Prop) (h0 : Pv 0 (upd H1 D (.lst []))) (hq : ∀ i H, Pv i H → SqL K H a xs ∧ SqL K H b ys)
    (hs : ∀ (i : Nat) (x y : V) (T : Addr) (H : Hp), xs[i]? = some x → ys[i]? = some y → Pv i H → H T = none → g (.ref T) (wipe σ vs) (upd H T (.tup [x, y])) fun σ2 H2 => wipe σ2 vs = wipe σ vs ∧ tt σ2 H2 fun c H3 =>
      if c = true then te σ2 H3 fun z H4 => ∃ acc, H4 D = some (.lst acc) ∧ acc.length < sizeLine ∧ Pv (i + 1) (upd H4 D (.lst (acc ++ [z]))) else Pv (i + 1) H3) (hd : ∀ H, Pv xs.length H → Qd H) :
    ∃ W : Nat → Nat → Hp → Prop, (∃ m, W 0 m (upd H1 D (.lst []))) ∧ ∀ i m H, W i m H →
      ((Itz K a b).stop i H ∧ Qd H) ∨ ((Itz K a b).go i H ∧ ∃ Nx : Hp → Prop, (∀ H', Nx H' → ∃ m', m' < m ∧ W (i + 1) m' H') ∧ ∀ x H', (Itz K a b).yld i H x H' → g x (wipe σ vs) H' fun σ2 H2 => wipe σ2 vs = wipe σ vs ∧ tt σ2 H2 fun c H3 =>
        if c = true then te σ2 H3 fun z H4 => ∃ acc, H4 D = some (.lst acc) ∧ acc.length < sizeLine ∧ Nx (upd H4 D (.lst (acc ++ [z]))) else Nx H3) := by
  refine ⟨fun i m H => m = xs.length - i ∧ i ≤ xs.length ∧ Pv i H, ⟨xs.length, rfl, Nat.zero_le _, h0⟩, ?_⟩
  rintro i m H ⟨rfl, hi, p⟩
  obtain ⟨qx, qy⟩ := hq i H p
  by_cases hlt : i < xs.length
  · have hx : xs[i]? = some xs[i] := List.getElem?_eq_getElem hlt
    have hlt2 : i < ys.length := by omega
    have hy : ys[i]? = some ys[i] := List.getElem?_eq_getElem hlt2
    refine .inr ⟨⟨xs, ys, _, _, qx, qy, hx, hy⟩, Pv (i + 1), fun H' p' => ⟨xs.length - (i + 1), by omega, rfl, hlt, p'⟩, fun v H' y => ?_⟩
    obtain ⟨T, x', y', rfl, hT, rfl, f1, f2⟩ := y
    exact hs i x' y' T H (f1 xs qx) (f2 ys qy) p hT
  · have e : i = xs.length := by omega
    subst e
    exact .inl ⟨⟨xs, ys, qx, qy, Or.inl (Nat.le_refl _)⟩, hd H p⟩
theorem lc_zipT (hl : xs.length = ys.length) (Pv : Nat → Hp → Prop) (h0 : Pv 0 (upd H1 D (.lst []))) (hq : ∀ i H, Pv i H → SqT K H a xs ∧ SqT K H b ys)
    (hs : ∀ (i : Nat) (x y : V) (T : Addr) (H : Hp), xs[i]? = some x → ys[i]? = some y → Pv i H → H T = none → g (.ref T) (wipe σ vs) (upd H T (.tup [x, y])) fun σ2 H2 => wipe σ2 vs = wipe σ vs ∧ tt σ2 H2 fun c H3 =>
      if c = true then te σ2 H3 fun z H4 => ∃ acc, H4 D = some (.lst acc) ∧ acc.length < sizeLine ∧ Pv (i + 1) (upd H4 D (.lst (acc ++ [z]))) else Pv (i + 1) H3) (hd : ∀ H, Pv xs.length H → Qd H) :
    ∃ W : Nat → Nat → Hp → Prop, (∃ m, W 0 m (upd H1 D (.lst []))) ∧ ∀ i m H, W i m H →
      ((ItzT K a b).stop i H ∧ Qd H) ∨ ((ItzT K a b).go i H ∧ ∃ Nx : Hp → Prop, (∀ H', Nx H' → ∃ m', m' < m ∧ W (i + 1) m' H') ∧ ∀ x H', (ItzT K a b).yld i H x H' → g x (wipe σ vs) H' fun σ2 H2 => wipe σ2 vs = wipe σ vs ∧ tt σ2 H2 fun c H3 =>
        if c = true then te σ2 H3 fun z H4 => ∃ acc, H4 D = some (.lst acc) ∧ acc.length < sizeLine ∧ Nx (upd H4 D (.lst (acc ++ [z]))) else Nx H3) := by
  refine ⟨fun i m H => m = xs.length - i ∧ i ≤ xs.length ∧ Pv i H, ⟨xs.length, rfl, Nat.zero_le _, h0⟩, ?_⟩
  rintro i m H ⟨rfl, hi, p⟩
  obtain ⟨qx, qy⟩ := hq i H p
  by_cases hlt : i < xs.length
  · have hx : xs[i]? = some xs[i] := List.getElem?_eq_getElem hlt
    have hlt2 : i < ys.length := by omega
    have hy : ys[i]? = some ys[i] := List.getElem?_eq_getElem hlt2
    refine .inr ⟨⟨xs, ys, _, _, qx, qy, hx, hy⟩, Pv (i + 1), fun H' p' => ⟨xs.length - (i + 1), by omega, rfl, hlt, p'⟩, fun v H' y => ?_⟩
    obtain ⟨T, x', y', rfl, hT, rfl, f1, f2⟩ := y
    exact hs i x' y' T H (f1 xs qx) (f2 ys qy) p hT
  · have e : i = xs.length := by omega
    subst e
    exact .inl ⟨⟨xs, ys, qx, qy, Or.inl (Nat.le_refl _)⟩, hd H p⟩
end
/-! ### two values that are the same, to the depth n: ints, bools, lists and tuples of such -/
inductive Two (K : PySem.W.Frag) (H : Hp) : Nat → V → V → Prop where
  | bl (n : Nat) (b : Bool) : Two K H n (.bl b) (.bl b)
  | int (n : Nat) (i : Int) : Two K H n (.int i) (.int i)
  | non (n : Nat) : Two K H n .non .non
  | str (n : Nat) (x : Str) : Two K H n (.str x) (.str x)
  | lst {n : Nat} {a b : Addr} {xs ys : List V} (ha : H a = some (.lst xs)) (hb : H b = some (.lst ys)) (hl : xs.length = ys.length) (hsz : xs.length ≤ sizeLine) (hi : ∀ (i : Nat) (x y : V), xs[i]? = some x → ys[i]? = some y → Two K H n x y) : Two K H (n + 1) (.ref a) (.ref b)
  | tup {n : Nat} {a b : Addr} {xs ys : List V} (ha : SqT K H a xs) (hb : SqT K H b ys) (hl : xs.length = ys.length) (hsz : xs.length ≤ sizeLine) (hi : ∀ (i : Nat) (x y : V), xs[i]? = some x → ys[i]? = some y → Two K H n x y) : Two K H (n + 1) (.ref a) (.ref b)
theorem Two.same {K : PySem.W.Frag} {H H' : Hp} {n : Nat} {x y : V} (t : Two K H n x y) (s : Same H H') : Two K H' n x y := by
  induction t with
  | bl n b => exact .bl n b
  | int n i => exact .int n i
  | non n => exact .non n
  | str n x => exact .str n x
  | lst ha hb hl hz _ ih => exact .lst (s _ _ ha) (s _ _ hb) hl hz ih
  | tup ha hb hl hz _ ih => exact .tup (SqT.up ha s) (SqT.up hb s) hl hz ih
theorem tyT {K : PySem.W.Frag} {H : Hp} {a : Addr} {xs : List V} (h : SqT K H a xs) : TyX K H (.ref a) (.type "tuple") := by
  rcases h with (h | ⟨ob, h⟩) | ⟨o, its, n, h1, h2, _⟩
  · exact .base (.tup h)
  · exact .fTuple h
  · exact .kTuple h1 h2
def spSame (K : PySem.W.Frag) (n : Nat) : Sp := fun vs H Q _ => ∃ x y, vs = [x, y] ∧ Two K H n x y ∧ ∀ H', Same H H' → Q (.bl true) H'
section
variable {P : Program} {w : World} {K : PySem.W.Frag} {mg : Str → Option Value} {base : Heap} {C : Addr}
theorem scSame : FnScope ["_law_found", "_law_due", "_law_one", "_law_other"] ["_law_found", "_law_due"] (defScope sSame) := ⟨rfl, rfl, rfl, by decide +kernel, rfl, by decide +kernel, by decide +kernel⟩
theorem kit2 {t : String} {b1 b2 r : Bool} (h1 : kitB t "list" = some b1) (h2 : kitB t "tuple" = some b2) (hr : (b1 || b2) = r) : PySem.W.kitAny K (.type t) [.type "list", .type "tuple"] = some r := by
  subst hr
  refine kitAny_cons (b := b1) (kit_ty h1) (fun e => ?_) (fun e => by rw [e]; rfl)
  subst e
  refine kitAny_cons (b := b2) (kit_ty h2) (fun e => ?_) (fun e => by rw [e]; rfl)
  subst e
  exact kitAny_nil
theorem kit3 {t : String} (h1 : kitB t "int" = some false) (h2 : kitB t "list" = some false) (h3 : kitB t "tuple" = some false) : PySem.W.kitAny K (.type t) [.type "int", .type "list", .type "tuple"] = some false := by
  refine kitAny_cons (b := false) (kit_ty h1) (fun _ => ?_) (fun e => by cases e)
  refine kitAny_cons (b := false) (kit_ty h2) (fun _ => ?_) (fun e => by cases e)
  refine kitAny_cons (b := false) (kit_ty h3) (fun _ => ?_) (fun e => by cases e)
  exact kitAny_nil
theorem ok_same {f : Addr} {fd : FuncData} (D : Df K mg "_law_same" sSame f fd ["_law_found", "_law_due"]) (T : Txt K mg) : ∀ n : Nat, FnOk P w K mg base CX0 (n + 1) f fd ["_law_found", "_law_due"] (spSame K n) := by
  have hlen : ∀ n, ∀ vs H Q E, spSame K n vs H Q E → vs.length = (["_law_found", "_law_due"] : List Str).length := fun n vs H Q E h => by
    obtain ⟨x, y, rfl, _⟩ := h
    rfl
  intro n
  induction n with
  | zero =>
    refine D.F.ok scSame (hlen 0) (fun cdv A outer s H vs Q E hr h => ?_)
    obtain ⟨x, y, rfl, t, k⟩ := h
    cases t with
    | int _ i =>
      refine ⟨_, pss_cons (ps_if (pt_val (pe_callB call_isiT (by rfl) T.isi boot_isi (pa_cons (pv 1) (pa_cons (pe_tup (pa_cons (pe_bltn (v := .ty "list") (by rfl) T.list_ boot_list' rfl) (pa_cons (pe_bltn (v := .ty "tuple") (by rfl) T.tup_ boot_tuple' rfl) pa_nil))) pa_nil)))) pss_never pss_nil)
      (pss_cons (ps_if (pt_val (pe_callB call_isi (by rfl) T.isi boot_isi (pa_cons (pv 1) (pa_cons (pe_bltn (v := .ty "int") (by rfl) T.int_ boot_int' rfl) pa_nil))))
        (pss_one (ps_ret (pe_and (pe_callB call_isi (by rfl) T.isi boot_isi (pa_cons (pv 0) (pa_cons (pe_bltn (v := .ty "int") (by rfl) T.int_ boot_int' rfl) pa_nil)))
          (pe_and (pe_cmpR op_eq (pe_callB call_isi (by rfl) T.isi boot_isi (pa_cons (pv 0) (pa_cons (pe_bltn (v := .ty "bool") (by rfl) T.bool_ boot_bool' rfl) pa_nil))) (pe_callB call_isi (by rfl) T.isi boot_isi (pa_cons (pv 1) (pa_cons (pe_bltn (v := .ty "bool") (by rfl) T.bool_ boot_bool' rfl) pa_nil))) (nomark _))
            (pe_one (pe_cmpR op_eq (pv 0) (pv 1) (nomark _))))))) pss_nil) pss_never), ?_⟩
      refine ⟨_, rfl, by show 2 ≤ sizeLine; decide, fun tp htp => ⟨_, tp, _, _, [.type "list", .type "tuple"], _, rfl, upd_same, .cons (.ty _) (.cons (.ty _) .nil), .base (.int i), kit2 (b1 := false) (b2 := false) (by decide +kernel) (by decide +kernel) rfl, _, rfl, iteF ?_⟩⟩
      refine ⟨_, rfl, _, _, _, _, _, rfl, .ty _, .base (.int i), kit_ty (b := "int") (r := true) (by decide +kernel), _, rfl, iteT ?_⟩
      refine ⟨_, rfl, _, _, _, _, _, rfl, .ty _, .base (.int i), kit_ty (b := "int") (r := true) (by decide +kernel), _, rfl, iteT ?_⟩
      refine ⟨_, rfl, _, _, _, _, _, rfl, .ty _, .base (.int i), kit_ty (b := "bool") (r := false) (by decide +kernel), _, rfl, _, _, _, _, _, rfl, .ty _, .base (.int i), kit_ty (b := "bool") (r := false) (by decide +kernel), rfl, _, rfl, ifD_yes rfl ?_⟩
      refine ⟨_, rfl, _, rfl, rfl, ?_⟩
      show Q (V.bl (decide (V.int i = V.int i))) _
      rw [decide_eq_true rfl]
      exact k _ (new_ htp)
    | bl _ b =>
      refine ⟨_, pss_cons (ps_if (pt_val (pe_callB call_isiT (by rfl) T.isi boot_isi (pa_cons (pv 1) (pa_cons (pe_tup (pa_cons (pe_bltn (v := .ty "list") (by rfl) T.list_ boot_list' rfl) (pa_cons (pe_bltn (v := .ty "tuple") (by rfl) T.tup_ boot_tuple' rfl) pa_nil))) pa_nil)))) pss_never pss_nil)
      (pss_cons (ps_if (pt_val (pe_callB call_isi (by rfl) T.isi boot_isi (pa_cons (pv 1) (pa_cons (pe_bltn (v := .ty "int") (by rfl) T.int_ boot_int' rfl) pa_nil))))
        (pss_one (ps_ret (pe_and (pe_callB call_isi (by rfl) T.isi boot_isi (pa_cons (pv 0) (pa_cons (pe_bltn (v := .ty "int") (by rfl) T.int_ boot_int' rfl) pa_nil)))
          (pe_and (pe_cmpR op_eq (pe_callB call_isi (by rfl) T.isi boot_isi (pa_cons (pv 0) (pa_cons (pe_bltn (v := .ty "bool") (by rfl) T.bool_ boot_bool' rfl) pa_nil))) (pe_callB call_isi (by rfl) T.isi boot_isi (pa_cons (pv 1) (pa_cons (pe_bltn (v := .ty "bool") (by rfl) T.bool_ boot_bool' rfl) pa_nil))) (nomark _))
            (pe_one (pe_cmpR op_eq (pv 0) (pv 1) (nomark _))))))) pss_nil) pss_never), ?_⟩
      refine ⟨_, rfl, by show 2 ≤ sizeLine; decide, fun tp htp => ⟨_, tp, _, _, [.type "list", .type "tuple"], _, rfl, upd_same, .cons (.ty _) (.cons (.ty _) .nil), .base (.bl b), kit2 (b1 := false) (b2 := false) (by decide +kernel) (by decide +kernel) rfl, _, rfl, iteF ?_⟩⟩
      refine ⟨_, rfl, _, _, _, _, _, rfl, .ty _, .base (.bl b), kit_ty (b := "int") (r := true) (by decide +kernel), _, rfl, iteT ?_⟩
      refine ⟨_, rfl, _, _, _, _, _, rfl, .ty _, .base (.bl b), kit_ty (b := "int") (r := true) (by decide +kernel), _, rfl, iteT ?_⟩
      refine ⟨_, rfl, _, _, _, _, _, rfl, .ty _, .base (.bl b), kit_ty (b := "bool") (r := true) (by decide +kernel), _, rfl, _, _, _, _, _, rfl, .ty _, .base (.bl b), kit_ty (b := "bool") (r := true) (by decide +kernel), rfl, _, rfl, ifD_yes rfl ?_⟩
      refine ⟨_, rfl, _, rfl, rfl, ?_⟩
      show Q (V.bl (decide (V.bl b = V.bl b))) _
      rw [decide_eq_true rfl]
      exact k _ (new_ htp)
    | non _ =>
      refine ⟨_, pss_cons (ps_if (pt_val (pe_callB call_isiT (by rfl) T.isi boot_isi (pa_cons (pv 1) (pa_cons (pe_tup (pa_cons (pe_bltn (v := .ty "list") (by rfl) T.list_ boot_list' rfl) (pa_cons (pe_bltn (v := .ty "tuple") (by rfl) T.tup_ boot_tuple' rfl) pa_nil))) pa_nil)))) pss_never pss_nil)
      (pss_cons (ps_if (pt_val (pe_callB call_isi (by rfl) T.isi boot_isi (pa_cons (pv 1) (pa_cons (pe_bltn (v := .ty "int") (by rfl) T.int_ boot_int' rfl) pa_nil)))) pss_never pss_nil)
      (pss_one (ps_ret (pe_and (pe_cmpR op_eq (pv 0) (pv 1) (nomark _)) (pe_one (pe_cmpR op_is_bl (pe_callB call_isiT (by rfl) T.isi boot_isi (pa_cons (pv 0) (pa_cons (pe_tup (pa_cons (pe_bltn (v := .ty "int") (by rfl) T.int_ boot_int' rfl) (pa_cons (pe_bltn (v := .ty "list") (by rfl) T.list_ boot_list' rfl) (pa_cons (pe_bltn (v := .ty "tuple") (by rfl) T.tup_ boot_tuple' rfl) pa_nil)))) pa_nil))) pe_bl (nomark _))))))), ?_⟩
      refine ⟨_, rfl, by show 2 ≤ sizeLine; decide, fun tp htp => ⟨_, tp, _, _, [.type "list", .type "tuple"], _, rfl, upd_same, .cons (.ty _) (.cons (.ty _) .nil), .base .non, kit2 (b1 := false) (b2 := false) (by decide +kernel) (by decide +kernel) rfl, _, rfl, iteF ?_⟩⟩
      refine ⟨_, rfl, _, _, _, _, _, rfl, .ty _, .base .non, kit_ty (b := "int") (r := false) (by decide +kernel), _, rfl, iteF ?_⟩
      refine ⟨_, rfl, _, rfl, rfl, _, rfl, ifD_yes rfl ?_⟩
      refine ⟨_, rfl, by show 3 ≤ sizeLine; decide, fun tq htq => ⟨_, tq, _, _, [.type "int", .type "list", .type "tuple"], _, rfl, upd_same, .cons (.ty _) (.cons (.ty _) (.cons (.ty _) .nil)), .base .non, kit3 (by decide +kernel) (by decide +kernel) (by decide +kernel), _, _, rfl, rfl, ?_⟩⟩
      exact k _ ((new_ htp).trans (new_ htq))
    | str _ x =>
      refine ⟨_, pss_cons (ps_if (pt_val (pe_callB call_isiT (by rfl) T.isi boot_isi (pa_cons (pv 1) (pa_cons (pe_tup (pa_cons (pe_bltn (v := .ty "list") (by rfl) T.list_ boot_list' rfl) (pa_cons (pe_bltn (v := .ty "tuple") (by rfl) T.tup_ boot_tuple' rfl) pa_nil))) pa_nil)))) pss_never pss_nil)
      (pss_cons (ps_if (pt_val (pe_callB call_isi (by rfl) T.isi boot_isi (pa_cons (pv 1) (pa_cons (pe_bltn (v := .ty "int") (by rfl) T.int_ boot_int' rfl) pa_nil)))) pss_never pss_nil)
      (pss_one (ps_ret (pe_and (pe_cmpR op_eq (pv 0) (pv 1) (nomark _)) (pe_one (pe_cmpR op_is_bl (pe_callB call_isiT (by rfl) T.isi boot_isi (pa_cons (pv 0) (pa_cons (pe_tup (pa_cons (pe_bltn (v := .ty "int") (by rfl) T.int_ boot_int' rfl) (pa_cons (pe_bltn (v := .ty "list") (by rfl) T.list_ boot_list' rfl) (pa_cons (pe_bltn (v := .ty "tuple") (by rfl) T.tup_ boot_tuple' rfl) pa_nil)))) pa_nil))) pe_bl (nomark _))))))), ?_⟩
      refine ⟨_, rfl, by show 2 ≤ sizeLine; decide, fun tp htp => ⟨_, tp, _, _, [.type "list", .type "tuple"], _, rfl, upd_same, .cons (.ty _) (.cons (.ty _) .nil), .base (.str x), kit2 (b1 := false) (b2 := false) (by decide +kernel) (by decide +kernel) rfl, _, rfl, iteF ?_⟩⟩
      refine ⟨_, rfl, _, _, _, _, _, rfl, .ty _, .base (.str x), kit_ty (b := "int") (r := false) (by decide +kernel), _, rfl, iteF ?_⟩
      refine ⟨_, rfl, _, rfl, rfl, _, rfl, ifD_yes rfl ?_⟩
      refine ⟨_, rfl, by show 3 ≤ sizeLine; decide, fun tq htq => ⟨_, tq, _, _, [.type "int", .type "list", .type "tuple"], _, rfl, upd_same, .cons (.ty _) (.cons (.ty _) (.cons (.ty _) .nil)), .base (.str x), kit3 (by decide +kernel) (by decide +kernel) (by decide +kernel), _, _, rfl, rfl, ?_⟩⟩
      exact k _ ((new_ htp).trans (new_ htq))
  | succ n ih =>
    refine D.F.ok scSame (hlen (n + 1)) (fun cdv A outer s H vs Q E hr h => ?_)
    obtain ⟨x, y, rfl, t, k⟩ := h
    cases t with
    | int _ i =>
      refine ⟨_, pss_cons (ps_if (pt_val (pe_callB call_isiT (by rfl) T.isi boot_isi (pa_cons (pv 1) (pa_cons (pe_tup (pa_cons (pe_bltn (v := .ty "list") (by rfl) T.list_ boot_list' rfl) (pa_cons (pe_bltn (v := .ty "tuple") (by rfl) T.tup_ boot_tuple' rfl) pa_nil))) pa_nil)))) pss_never pss_nil)
      (pss_cons (ps_if (pt_val (pe_callB call_isi (by rfl) T.isi boot_isi (pa_cons (pv 1) (pa_cons (pe_bltn (v := .ty "int") (by rfl) T.int_ boot_int' rfl) pa_nil))))
        (pss_one (ps_ret (pe_and (pe_callB call_isi (by rfl) T.isi boot_isi (pa_cons (pv 0) (pa_cons (pe_bltn (v := .ty "int") (by rfl) T.int_ boot_int' rfl) pa_nil)))
          (pe_and (pe_cmpR op_eq (pe_callB call_isi (by rfl) T.isi boot_isi (pa_cons (pv 0) (pa_cons (pe_bltn (v := .ty "bool") (by rfl) T.bool_ boot_bool' rfl) pa_nil))) (pe_callB call_isi (by rfl) T.isi boot_isi (pa_cons (pv 1) (pa_cons (pe_bltn (v := .ty "bool") (by rfl) T.bool_ boot_bool' rfl) pa_nil))) (nomark _))
            (pe_one (pe_cmpR op_eq (pv 0) (pv 1) (nomark _))))))) pss_nil) pss_never), ?_⟩
      refine ⟨_, rfl, by show 2 ≤ sizeLine; decide, fun tp htp => ⟨_, tp, _, _, [.type "list", .type "tuple"], _, rfl, upd_same, .cons (.ty _) (.cons (.ty _) .nil), .base (.int i), kit2 (b1 := false) (b2 := false) (by decide +kernel) (by decide +kernel) rfl, _, rfl, iteF ?_⟩⟩
      refine ⟨_, rfl, _, _, _, _, _, rfl, .ty _, .base (.int i), kit_ty (b := "int") (r := true) (by decide +kernel), _, rfl, iteT ?_⟩
      refine ⟨_, rfl, _, _, _, _, _, rfl, .ty _, .base (.int i), kit_ty (b := "int") (r := true) (by decide +kernel), _, rfl, iteT ?_⟩
      refine ⟨_, rfl, _, _, _, _, _, rfl, .ty _, .base (.int i), kit_ty (b := "bool") (r := false) (by decide +kernel), _, rfl, _, _, _, _, _, rfl, .ty _, .base (.int i), kit_ty (b := "bool") (r := false) (by decide +kernel), rfl, _, rfl, ifD_yes rfl ?_⟩
      refine ⟨_, rfl, _, rfl, rfl, ?_⟩
      show Q (V.bl (decide (V.int i = V.int i))) _
      rw [decide_eq_true rfl]
      exact k _ (new_ htp)
    | bl _ b =>
      refine ⟨_, pss_cons (ps_if (pt_val (pe_callB call_isiT (by rfl) T.isi boot_isi (pa_cons (pv 1) (pa_cons (pe_tup (pa_cons (pe_bltn (v := .ty "list") (by rfl) T.list_ boot_list' rfl) (pa_cons (pe_bltn (v := .ty "tuple") (by rfl) T.tup_ boot_tuple' rfl) pa_nil))) pa_nil)))) pss_never pss_nil)
      (pss_cons (ps_if (pt_val (pe_callB call_isi (by rfl) T.isi boot_isi (pa_cons (pv 1) (pa_cons (pe_bltn (v := .ty "int") (by rfl) T.int_ boot_int' rfl) pa_nil))))
        (pss_one (ps_ret (pe_and (pe_callB call_isi (by rfl) T.isi boot_isi (pa_cons (pv 0) (pa_cons (pe_bltn (v := .ty "int") (by rfl) T.int_ boot_int' rfl) pa_nil)))
          (pe_and (pe_cmpR op_eq (pe_callB call_isi (by rfl) T.isi boot_isi (pa_cons (pv 0) (pa_cons (pe_bltn (v := .ty "bool") (by rfl) T.bool_ boot_bool' rfl) pa_nil))) (pe_callB call_isi (by rfl) T.isi boot_isi (pa_cons (pv 1) (pa_cons (pe_bltn (v := .ty "bool") (by rfl) T.bool_ boot_bool' rfl) pa_nil))) (nomark _))
            (pe_one (pe_cmpR op_eq (pv 0) (pv 1) (nomark _))))))) pss_nil) pss_never), ?_⟩
      refine ⟨_, rfl, by show 2 ≤ sizeLine; decide, fun tp htp => ⟨_, tp, _, _, [.type "list", .type "tuple"], _, rfl, upd_same, .cons (.ty _) (.cons (.ty _) .nil), .base (.bl b), kit2 (b1 := false) (b2 := false) (by decide +kernel) (by decide +kernel) rfl, _, rfl, iteF ?_⟩⟩
      refine ⟨_, rfl, _, _, _, _, _, rfl, .ty _, .base (.bl b), kit_ty (b := "int") (r := true) (by decide +kernel), _, rfl, iteT ?_⟩
      refine ⟨_, rfl, _, _, _, _, _, rfl, .ty _, .base (.bl b), kit_ty (b := "int") (r := true) (by decide +kernel), _, rfl, iteT ?_⟩
      refine ⟨_, rfl, _, _, _, _, _, rfl, .ty _, .base (.bl b), kit_ty (b := "bool") (r := true) (by decide +kernel), _, rfl, _, _, _, _, _, rfl, .ty _, .base (.bl b), kit_ty (b := "bool") (r := true) (by decide +kernel), rfl, _, rfl, ifD_yes rfl ?_⟩
      refine ⟨_, rfl, _, rfl, rfl, ?_⟩
      show Q (V.bl (decide (V.bl b = V.bl b))) _
      rw [decide_eq_true rfl]
      exact k _ (new_ htp)
    | non _ =>
      refine ⟨_, pss_cons (ps_if (pt_val (pe_callB call_isiT (by rfl) T.isi boot_isi (pa_cons (pv 1) (pa_cons (pe_tup (pa_cons (pe_bltn (v := .ty "list") (by rfl) T.list_ boot_list' rfl) (pa_cons (pe_bltn (v := .ty "tuple") (by rfl) T.tup_ boot_tuple' rfl) pa_nil))) pa_nil)))) pss_never pss_nil)
      (pss_cons (ps_if (pt_val (pe_callB call_isi (by rfl) T.isi boot_isi (pa_cons (pv 1) (pa_cons (pe_bltn (v := .ty "int") (by rfl) T.int_ boot_int' rfl) pa_nil)))) pss_never pss_nil)
      (pss_one (ps_ret (pe_and (pe_cmpR op_eq (pv 0) (pv 1) (nomark _)) (pe_one (pe_cmpR op_is_bl (pe_callB call_isiT (by rfl) T.isi boot_isi (pa_cons (pv 0) (pa_cons (pe_tup (pa_cons (pe_bltn (v := .ty "int") (by rfl) T.int_ boot_int' rfl) (pa_cons (pe_bltn (v := .ty "list") (by rfl) T.list_ boot_list' rfl) (pa_cons (pe_bltn (v := .ty "tuple") (by rfl) T.tup_ boot_tuple' rfl) pa_nil)))) pa_nil))) pe_bl (nomark _))))))), ?_⟩
      refine ⟨_, rfl, by show 2 ≤ sizeLine; decide, fun tp htp => ⟨_, tp, _, _, [.type "list", .type "tuple"], _, rfl, upd_same, .cons (.ty _) (.cons (.ty _) .nil), .base .non, kit2 (b1 := false) (b2 := false) (by decide +kernel) (by decide +kernel) rfl, _, rfl, iteF ?_⟩⟩
      refine ⟨_, rfl, _, _, _, _, _, rfl, .ty _, .base .non, kit_ty (b := "int") (r := false) (by decide +kernel), _, rfl, iteF ?_⟩
      refine ⟨_, rfl, _, rfl, rfl, _, rfl, ifD_yes rfl ?_⟩
      refine ⟨_, rfl, by show 3 ≤ sizeLine; decide, fun tq htq => ⟨_, tq, _, _, [.type "int", .type "list", .type "tuple"], _, rfl, upd_same, .cons (.ty _) (.cons (.ty _) (.cons (.ty _) .nil)), .base .non, kit3 (by decide +kernel) (by decide +kernel) (by decide +kernel), _, _, rfl, rfl, ?_⟩⟩
      exact k _ ((new_ htp).trans (new_ htq))
    | str _ x =>
      refine ⟨_, pss_cons (ps_if (pt_val (pe_callB call_isiT (by rfl) T.isi boot_isi (pa_cons (pv 1) (pa_cons (pe_tup (pa_cons (pe_bltn (v := .ty "list") (by rfl) T.list_ boot_list' rfl) (pa_cons (pe_bltn (v := .ty "tuple") (by rfl) T.tup_ boot_tuple' rfl) pa_nil))) pa_nil)))) pss_never pss_nil)
      (pss_cons (ps_if (pt_val (pe_callB call_isi (by rfl) T.isi boot_isi (pa_cons (pv 1) (pa_cons (pe_bltn (v := .ty "int") (by rfl) T.int_ boot_int' rfl) pa_nil)))) pss_never pss_nil)
      (pss_one (ps_ret (pe_and (pe_cmpR op_eq (pv 0) (pv 1) (nomark _)) (pe_one (pe_cmpR op_is_bl (pe_callB call_isiT (by rfl) T.isi boot_isi (pa_cons (pv 0) (pa_cons (pe_tup (pa_cons (pe_bltn (v := .ty "int") (by rfl) T.int_ boot_int' rfl) (pa_cons (pe_bltn (v := .ty "list") (by rfl) T.list_ boot_list' rfl) (pa_cons (pe_bltn (v := .ty "tuple") (by rfl) T.tup_ boot_tuple' rfl) pa_nil)))) pa_nil))) pe_bl (nomark _))))))), ?_⟩
      refine ⟨_, rfl, by show 2 ≤ sizeLine; decide, fun tp htp => ⟨_, tp, _, _, [.type "list", .type "tuple"], _, rfl, upd_same, .cons (.ty _) (.cons (.ty _) .nil), .base (.str x), kit2 (b1 := false) (b2 := false) (by decide +kernel) (by decide +kernel) rfl, _, rfl, iteF ?_⟩⟩
      refine ⟨_, rfl, _, _, _, _, _, rfl, .ty _, .base (.str x), kit_ty (b := "int") (r := false) (by decide +kernel), _, rfl, iteF ?_⟩
      refine ⟨_, rfl, _, rfl, rfl, _, rfl, ifD_yes rfl ?_⟩
      refine ⟨_, rfl, by show 3 ≤ sizeLine; decide, fun tq htq => ⟨_, tq, _, _, [.type "int", .type "list", .type "tuple"], _, rfl, upd_same, .cons (.ty _) (.cons (.ty _) (.cons (.ty _) .nil)), .base (.str x), kit3 (by decide +kernel) (by decide +kernel) (by decide +kernel), _, _, rfl, rfl, ?_⟩⟩
      exact k _ ((new_ htp).trans (new_ htq))
    | @lst _ a b xs ys ha hb hl hsz hi =>
      refine ⟨_, pss_cons (ps_if (pt_val (pe_callB call_isiT (by rfl) T.isi boot_isi (pa_cons (pv 1) (pa_cons (pe_tup (pa_cons (pe_bltn (v := .ty "list") (by rfl) T.list_ boot_list' rfl) (pa_cons (pe_bltn (v := .ty "tuple") (by rfl) T.tup_ boot_tuple' rfl) pa_nil))) pa_nil))))
      (pss_cons (ps_if (PW.pt (pw_or (pt_cmpR op_ne (pe_callB call_isi (by rfl) T.isi boot_isi (pa_cons (pv 0) (pa_cons (pe_bltn (v := .ty "list") (by rfl) T.list_ boot_list' rfl) pa_nil))) (pe_callB call_isi (by rfl) T.isi boot_isi (pa_cons (pv 1) (pa_cons (pe_bltn (v := .ty "list") (by rfl) T.list_ boot_list' rfl) pa_nil))) (nomark _)) (pw_or1 (pt_cmpR op_ne (pe_callB call_isi (by rfl) T.isi boot_isi (pa_cons (pv 0) (pa_cons (pe_bltn (v := .ty "tuple") (by rfl) T.tup_ boot_tuple' rfl) pa_nil))) (pe_callB call_isi (by rfl) T.isi boot_isi (pa_cons (pv 1) (pa_cons (pe_bltn (v := .ty "tuple") (by rfl) T.tup_ boot_tuple' rfl) pa_nil))) (nomark _))))) pss_never pss_nil)
        (pss_one (ps_ret (pe_and (pe_cmpR op_eq (pe_callB call_len_seq (by rfl) T.len_ PySem.boot_len (pa_cons (pv 0) pa_nil)) (pe_callB call_len_seq (by rfl) T.len_ PySem.boot_len (pa_cons (pv 1) pa_nil)) (nomark _))
          (pe_one (pe_callB (cr_all rfl) (by rfl) T.all_ boot_all' (pa_cons (pe_lc (own := [("_law_one", 2), ("_law_other", 3)]) (g := gTup K 2 (gCons (gName 2) (gCons (gName 3) gNil))) (tt := tYes) (by rfl) scSame.nd (pi_zipA (by rfl) T.zip_ (pa_cons (pv 0) (pa_cons (pv 1) pa_nil))) (blkOk_by (N := ["_law_found", "_law_due", "_law_one", "_law_other"]) (sc := defScope sSame) (by decide +kernel))
            (fun _ _ _ _ _ => by exact pg_tup rfl (pgs_cons (pg_name (i := 2) scSame.nd rfl (Or.inl rfl)) (pgs_cons (pg_name (i := 3) scSame.nd rfl (Or.inl rfl)) pgs_nil))) (fun _ _ _ _ _ => pts_nil)
            (fun _ _ _ _ _ => pe_call ih hr rfl D.M D.F.kp D.B .nil pass0 (pa_cons (pv 2) (pa_cons (pv 3) pa_nil)))) pa_nil))))))) pss_nil) pss_never, ?_⟩
      refine ⟨_, rfl, by show 2 ≤ sizeLine; decide, fun tp htp => ?_⟩
      have s1 : Same H (upd H tp (.tup [.ty "list", .ty "tuple"])) := new_ htp
      have hA := s1 _ _ ha
      have hB := s1 _ _ hb
      refine ⟨_, tp, _, _, [.type "list", .type "tuple"], _, rfl, upd_same, .cons (.ty _) (.cons (.ty _) .nil), .base (.lst hB), kit2 (b1 := true) (b2 := false) (by decide +kernel) (by decide +kernel) rfl, _, rfl, iteT ?_⟩
      refine ⟨_, rfl, _, _, _, _, _, rfl, .ty _, .base (.lst hA), kit_ty (b := "list") (r := true) (by decide +kernel), _, rfl, _, _, _, _, _, rfl, .ty _, .base (.lst hB), kit_ty (b := "list") (r := true) (by decide +kernel), rfl, _, rfl, iteNS rfl ?_⟩
      refine ⟨_, rfl, _, _, _, _, _, rfl, .ty _, .base (.lst hA), kit_ty (b := "tuple") (r := false) (by decide +kernel), _, rfl, _, _, _, _, _, rfl, .ty _, .base (.lst hB), kit_ty (b := "tuple") (r := false) (by decide +kernel), rfl, _, rfl, iteNS rfl ?_⟩
      refine ⟨_, rfl, _, _, rfl, .inl (SqL.of hA), _, rfl, _, _, rfl, .inl (SqL.of hB), rfl, _, rfl, ifD_yes (by rw [hl]) ?_⟩
      refine ⟨_, rfl, _, rfl, _, _, xs, ys, rfl, .inl ⟨SqL.of hA, SqL.of hB, fun Dd hD => ?_⟩⟩
      refine lc_zipL hl (fun i H' => Same (upd H tp (.tup [.ty "list", .ty "tuple"])) H' ∧ H' Dd = some (.lst ((List.replicate i true).map V.bl))) ⟨new_ hD, upd_same⟩ (fun i H' q => ⟨SqL.of (q.1 _ _ hA), SqL.of (q.1 _ _ hB)⟩) ?_ ?_
      · rintro i x y tt H' hx hy ⟨sm, hd⟩ ht
        refine ⟨tt, _, rfl, SqT.of upd_same, rfl, _, _, rfl, _, _, rfl, rfl, rfl, ?_⟩
        dsimp only [tYes]
        rw [if_pos rfl]
        have s2 : Same H' (upd H' tt (.tup [x, y])) := new_ ht
        refine ⟨_, rfl, _, rfl, x, y, rfl, ((hi i x y hx hy).same s1).same (sm.trans s2), fun H2 s3 => ⟨_, s3 _ _ (s2 _ _ hd), ?_, ?_, ?_⟩⟩
        · rw [List.length_map, List.length_replicate]
          exact Nat.lt_of_lt_of_le (List.getElem?_eq_some_iff.mp hx).1 hsz
        · intro c o e
          rw [upd_ne (ne_of_none e hD)]
          exact s3 _ _ (s2 _ _ (sm _ _ e))
        · rw [upd_same, List.replicate_succ', List.map_append]
          rfl
      · rintro H' ⟨sm, hd⟩
        refine ⟨Dd, _, rfl, SqL.of hd, ?_⟩
        have ea : (List.replicate xs.length true).all id = true := by
          rw [List.all_eq_true]
          intro x hx
          rw [(List.mem_replicate.mp hx).2]
          rfl
        rw [ea]
        exact k _ (s1.trans sm)
    | @tup _ a b xs ys ha hb hl hsz hi =>
      refine ⟨_, pss_cons (ps_if (pt_val (pe_callB call_isiT (by rfl) T.isi boot_isi (pa_cons (pv 1) (pa_cons (pe_tup (pa_cons (pe_bltn (v := .ty "list") (by rfl) T.list_ boot_list' rfl) (pa_cons (pe_bltn (v := .ty "tuple") (by rfl) T.tup_ boot_tuple' rfl) pa_nil))) pa_nil))))
      (pss_cons (ps_if (PW.pt (pw_or (pt_cmpR op_ne (pe_callB call_isi (by rfl) T.isi boot_isi (pa_cons (pv 0) (pa_cons (pe_bltn (v := .ty "list") (by rfl) T.list_ boot_list' rfl) pa_nil))) (pe_callB call_isi (by rfl) T.isi boot_isi (pa_cons (pv 1) (pa_cons (pe_bltn (v := .ty "list") (by rfl) T.list_ boot_list' rfl) pa_nil))) (nomark _)) (pw_or1 (pt_cmpR op_ne (pe_callB call_isi (by rfl) T.isi boot_isi (pa_cons (pv 0) (pa_cons (pe_bltn (v := .ty "tuple") (by rfl) T.tup_ boot_tuple' rfl) pa_nil))) (pe_callB call_isi (by rfl) T.isi boot_isi (pa_cons (pv 1) (pa_cons (pe_bltn (v := .ty "tuple") (by rfl) T.tup_ boot_tuple' rfl) pa_nil))) (nomark _))))) pss_never pss_nil)
        (pss_one (ps_ret (pe_and (pe_cmpR op_eq (pe_callB call_len_seq (by rfl) T.len_ PySem.boot_len (pa_cons (pv 0) pa_nil)) (pe_callB call_len_seq (by rfl) T.len_ PySem.boot_len (pa_cons (pv 1) pa_nil)) (nomark _))
          (pe_one (pe_callB (cr_all rfl) (by rfl) T.all_ boot_all' (pa_cons (pe_lc (own := [("_law_one", 2), ("_law_other", 3)]) (g := gTup K 2 (gCons (gName 2) (gCons (gName 3) gNil))) (tt := tYes) (by rfl) scSame.nd (pi_zipA (by rfl) T.zip_ (pa_cons (pv 0) (pa_cons (pv 1) pa_nil))) (blkOk_by (N := ["_law_found", "_law_due", "_law_one", "_law_other"]) (sc := defScope sSame) (by decide +kernel))
            (fun _ _ _ _ _ => by exact pg_tup rfl (pgs_cons (pg_name (i := 2) scSame.nd rfl (Or.inl rfl)) (pgs_cons (pg_name (i := 3) scSame.nd rfl (Or.inl rfl)) pgs_nil))) (fun _ _ _ _ _ => pts_nil)
            (fun _ _ _ _ _ => pe_call ih hr rfl D.M D.F.kp D.B .nil pass0 (pa_cons (pv 2) (pa_cons (pv 3) pa_nil)))) pa_nil))))))) pss_nil) pss_never, ?_⟩
      refine ⟨_, rfl, by show 2 ≤ sizeLine; decide, fun tp htp => ?_⟩
      have s1 : Same H (upd H tp (.tup [.ty "list", .ty "tuple"])) := new_ htp
      have hA := SqT.up ha s1
      have hB := SqT.up hb s1
      refine ⟨_, tp, _, _, [.type "list", .type "tuple"], _, rfl, upd_same, .cons (.ty _) (.cons (.ty _) .nil), tyT hB, kit2 (b1 := false) (b2 := true) (by decide +kernel) (by decide +kernel) rfl, _, rfl, iteT ?_⟩
      refine ⟨_, rfl, _, _, _, _, _, rfl, .ty _, tyT hA, kit_ty (b := "list") (r := false) (by decide +kernel), _, rfl, _, _, _, _, _, rfl, .ty _, tyT hB, kit_ty (b := "list") (r := false) (by decide +kernel), rfl, _, rfl, iteNS rfl ?_⟩
      refine ⟨_, rfl, _, _, _, _, _, rfl, .ty _, tyT hA, kit_ty (b := "tuple") (r := true) (by decide +kernel), _, rfl, _, _, _, _, _, rfl, .ty _, tyT hB, kit_ty (b := "tuple") (r := true) (by decide +kernel), rfl, _, rfl, iteNS rfl ?_⟩
      refine ⟨_, rfl, _, _, rfl, .inr (hA), _, rfl, _, _, rfl, .inr (hB), rfl, _, rfl, ifD_yes (by rw [hl]) ?_⟩
      refine ⟨_, rfl, _, rfl, _, _, xs, ys, rfl, .inr ⟨hA, hB, fun Dd hD => ?_⟩⟩
      refine lc_zipT hl (fun i H' => Same (upd H tp (.tup [.ty "list", .ty "tuple"])) H' ∧ H' Dd = some (.lst ((List.replicate i true).map V.bl))) ⟨new_ hD, upd_same⟩ (fun i H' q => ⟨SqT.up hA q.1, SqT.up hB q.1⟩) ?_ ?_
      · rintro i x y tt H' hx hy ⟨sm, hd⟩ ht
        refine ⟨tt, _, rfl, SqT.of upd_same, rfl, _, _, rfl, _, _, rfl, rfl, rfl, ?_⟩
        dsimp only [tYes]
        rw [if_pos rfl]
        have s2 : Same H' (upd H' tt (.tup [x, y])) := new_ ht
        refine ⟨_, rfl, _, rfl, x, y, rfl, ((hi i x y hx hy).same s1).same (sm.trans s2), fun H2 s3 => ⟨_, s3 _ _ (s2 _ _ hd), ?_, ?_, ?_⟩⟩
        · rw [List.length_map, List.length_replicate]
          exact Nat.lt_of_lt_of_le (List.getElem?_eq_some_iff.mp hx).1 hsz
        · intro c o e
          rw [upd_ne (ne_of_none e hD)]
          exact s3 _ _ (s2 _ _ (sm _ _ e))
        · rw [upd_same, List.replicate_succ', List.map_append]
          rfl
      · rintro H' ⟨sm, hd⟩
        refine ⟨Dd, _, rfl, SqL.of hd, ?_⟩
        have ea : (List.replicate xs.length true).all id = true := by
          rw [List.all_eq_true]
          intro x hx
          rw [(List.mem_replicate.mp hx).2]
          rfl
        rw [ea]
        exact k _ (s1.trans sm)
end
end PA

set_option maxHeartbeats 4000000
namespace PA
open PySem L2 RZ
open C8 (pss_cut tCut)
theorem Keep.new {a l : Addr} {H H' : Hp} {p : Addr} {o : HO} (k : Keep a l H H') (hp : H' p = none) : Keep a l H (upd H' p o) := k.trans (Keep.of (new_ hp))
theorem Keep.none {a l : Addr} {H H' : Hp} {p : Addr} (k : Keep a l H H') (pa : p ≠ a) (pl : p ≠ l) (h : H' p = Option.none) : H p = Option.none := by
  cases e : H p with
  | none => rfl
  | some o => rw [k p o pa pl e] at h; cases h
theorem TupOf.kp {α : Type} {f : α → List V} {H H' : Hp} {a l c : Addr} {n : Nat} {r : α} (q : TupOf f H c r) (S : StreamAt H a l n) (k : Keep a l H H') : TupOf f H' c r := by
  obtain ⟨ne, ns, x, z, h1, h2, _⟩ := S
  exact k _ _ (ne_of (H := H) q h1 (by intro z; cases z)) (ne_of (H := H) q h2 (by intro z; cases z)) q
theorem EaKp {α : Type} {f : α → List V} {H H' : Hp} {a l : Addr} {n : Nat} {xs : List V} {ds : List α} (e : Ea H (TupOf f) xs ds) (S : StreamAt H a l n) (k : Keep a l H H') : Ea H' (TupOf f) xs ds := e.imp fun c r q => TupOf.kp (f := f) q S k
theorem keep_upd {a l D : Addr} {H H' : Hp} {o : HO} (k : Keep a l H H') (hD : H D = Option.none) : Keep a l H (upd H' D o) := fun c u ca cl e => by
  rw [upd_ne (ne_of_none e hD)]
  exact k c u ca cl e
theorem sm4 {z : Int} (h1 : 1 ≤ z) (h2 : z ≤ 1000) : Sm 9000 z := by
  refine sm9000 (n := 10) ?_ (by decide)
  have e : (2 : Nat) ^ 10 = 1024 := by decide
  show z.natAbs < 2 ^ 10
  rw [e]
  omega
def spEntry : Sp := fun vs H Q _ => ∃ (a l : Addr) (n size : Nat), vs = [.ref a, .int (size : Int)] ∧ StreamAt H a l n ∧ n ≤ 50000 ∧ 1 ≤ size ∧ size ≤ 48 ∧
  ∀ (o : Option Nat) (n' : Nat) (H' : Hp), EOk size o → StreamAt H' a l n' → n' ≤ n + 2 → Keep a l H H' → Q (ev o) H'
def spLines : Sp := fun vs H Q _ => ∃ (a l : Addr) (n : Nat) (most : Int), vs = [.ref a, .int most] ∧ StreamAt H a l n ∧ n ≤ 40000 ∧ 1 ≤ most ∧ most ≤ 48 ∧
  ∀ (L : Addr) (refs : List V) (ls : List Ln) (n' : Nat) (H' : Hp), H' L = some (.lst refs) → H L = none → L ≠ a → L ≠ l → Ea H' isLn refs ls → GoodL ls → (ls.length : Int) ≤ most → StreamAt H' a l n' → n' ≤ n + 200 → Keep a l H H' → Q (.ref L) H'
section
variable {P : Program} {w : World} {K : PySem.W.Frag} {mg : Str → Option Value} {base : Heap} {C : Addr}
theorem scEntry : FnScope ["_law_stream", "_law_size"] ["_law_stream", "_law_size"] (defScope sEntry) := ⟨rfl, rfl, rfl, by decide +kernel, rfl, by decide +kernel, by decide +kernel⟩
theorem ok_entry {f g : Addr} {fd gd : FuncData} (F : Fun K "_law_m_entry" "_law_m_entry" sEntry f fd) (T : Txt K mg) (D : Df K mg "_law_draw" sDraw g gd ["_law_stream", "_law_many"]) : FnOk P w K mg base CX0 2 f fd ["_law_stream", "_law_size"] spEntry := by
  have G : FnOk P w K mg base CX0 1 g gd ["_law_stream", "_law_many"] spDraw := ok_draw D.F T
  refine F.ok scEntry (fun vs H Q E h => ?_) (fun cdv A outer s H vs Q E hr h => ?_)
  · obtain ⟨a, l, _, _, rfl, _⟩ := h
    rfl
  · obtain ⟨a, l, n, size, rfl, S0, hn, h1, h48, kk⟩ := h
    refine ⟨_, pss_one (ps_ret (pe_ifExp (pt_cmpR op_eq (pe_call G hr rfl D.M D.F.kp D.B .nil pass0 (pa_cons (pv 0) (pa_cons pe_int pa_nil))) pe_int (nomark _)) pe_non (pe_call G hr rfl D.M D.F.kp D.B .nil pass0 (pa_cons (pv 0) (pa_cons (pv 1) pa_nil))))), ?_⟩
    refine ⟨_, rfl, a, l, n, 4, rfl, S0, by omega, by decide, sm4 (by decide) (by decide), fun r H1 r0 r1 S1 k1 => ⟨rfl, _, rfl, ifD_2 (fun _ => ?_) (fun _ => ?_)⟩⟩
    · exact kk none _ H1 (fun a h => by cases h) S1 (by omega) k1
    · refine ⟨_, rfl, _, rfl, a, l, _, _, rfl, S1, by omega, by omega, sm4 (by omega) (by omega), fun r2 H2 r20 r21 S2 k2 => ?_⟩
      have := kk (some r2.toNat) _ H2 (fun a h => by cases h; omega) S2 (by omega) (k1.trans k2)
      rw [show ev (some r2.toNat) = V.int r2 from congrArg V.int (Int.toNat_of_nonneg r20)] at this
      exact this
theorem scLines : FnScope ["_law_stream", "_law_most", "_law_size", "_law_k"] ["_law_stream", "_law_most"] (defScope sLines) := ⟨rfl, rfl, rfl, by decide +kernel, rfl, by decide +kernel, by decide +kernel⟩
theorem ok_lines {f g g2 : Addr} {fd gd gd2 : FuncData} (F : Fun K "_law_m_lines" "_law_m_lines" sLines f fd) (T : Txt K mg) (D : Df K mg "_law_draw" sDraw g gd ["_law_stream", "_law_many"]) (D2 : Df K mg "_law_m_entry" sEntry g2 gd2 ["_law_stream", "_law_size"]) : FnOk P w K mg base CX0 3 f fd ["_law_stream", "_law_most"] spLines := by
  have G : FnOk P w K mg base CX0 1 g gd ["_law_stream", "_law_many"] spDraw := ok_draw D.F T
  have G2 : FnOk P w K mg base CX0 2 g2 gd2 ["_law_stream", "_law_size"] spEntry := ok_entry D2.F T D
  refine F.ok scLines (fun vs H Q E h => ?_) (fun cdv A outer s H vs Q E hr h => ?_)
  · obtain ⟨a, l, _, _, rfl, _⟩ := h
    rfl
  · obtain ⟨a, l, n, most, rfl, S0, hn, h1, h48, kk⟩ := h
    have hr1 : Room 1 _ := hr.mono (by decide)
    refine ⟨_, pss_cons (ps_set (i := 2) scLines.nd rfl (Or.inr rfl) (pe_op op_add pe_int (pe_call G hr1 rfl D.M D.F.kp D.B .nil pass0 (pa_cons (pv 0) (pa_cons (pv 1) pa_nil)))))
      (pss_one (ps_ret (pe_lc (own := [("_law_k", 3)]) (g := gName 3) (tt := tYes) (by rfl) scLines.nd (pi_range1 (by rfl) T.range_ (pa_cons (pv 2) pa_nil)) (blkOk_by (N := ["_law_stream", "_law_most", "_law_size", "_law_k"]) (sc := defScope sLines) (by decide +kernel))
          (fun _ _ _ _ _ => pg_name (i := 3) scLines.nd rfl (Or.inl rfl)) (fun _ _ _ _ _ => pts_nil)
          (fun _ _ _ _ _ => pe_tup (pa_cons (pe_call G2 hr rfl D2.M D2.F.kp D2.B .nil pass0 (pa_cons (pv 0) (pa_cons (pv 2) pa_nil))) (pa_cons (pe_call G2 hr rfl D2.M D2.F.kp D2.B .nil pass0 (pa_cons (pv 0) (pa_cons (pv 2) pa_nil))) pa_nil)))))), ?_⟩
    refine ⟨_, rfl, _, rfl, a, l, n, most, rfl, S0, by omega, by omega, sm4 (by omega) (by omega), fun r H1 r0 r1 S1 k1 => ⟨_, _, rfl, rfl, ?_⟩⟩
    obtain ⟨sz, hsz⟩ : ∃ sz : Nat, 1 + r = (sz : Int) := ⟨(1 + r).toNat, (Int.toNat_of_nonneg (by omega)).symm⟩
    show gName 2 (V.int (1 + r)) _ _ _
    rw [hsz]
    have sz1 : 1 ≤ sz := by omega
    have sz48 : sz ≤ 48 := by omega
    refine ⟨_, rfl, (sz : Int), rfl, by omega, by omega, fun Dd hD => ?_⟩
    obtain ⟨Da, Dl⟩ := S1.ne hD
    refine lc_range (n := sz) (fun i H' => ∃ n', n' ≤ n + 1 + 4 * i ∧ StreamAt H' a l n' ∧ Keep a l H1 H' ∧ ∃ acc ds, H' Dd = some (.lst acc) ∧ Ea H' isLn acc ds ∧ ds.length = i ∧ ∀ d ∈ ds, LOk sz d) ?_ ?_ ?_
    · exact ⟨n + 1, by omega, S1.same (new_ hD), Keep.of (new_ hD), [], [], upd_same, Ea.nil, rfl, fun d hd => by cases hd⟩
    · rintro i H2 hi ⟨n', hn', S2, k2, acc, ds, hd, he, hl, ho⟩
      refine ⟨rfl, ?_⟩
      dsimp only [tYes]
      rw [if_pos rfl]
      refine ⟨_, rfl, _, rfl, a, l, n', sz, rfl, S2, by omega, sz1, sz48, fun o1 n3 H3 e1 S3 hn3 k3 => ?_⟩
      refine ⟨_, rfl, _, rfl, a, l, n3, sz, rfl, S3, by omega, sz1, sz48, fun o2 n4 H4 e2 S4 hn4 k4 => ⟨by show 2 ≤ sizeLine; decide, fun t ht => ?_⟩⟩
      have k34 := k3.trans k4
      have hd4 := k34 _ _ Da Dl hd
      have he4 := EaKp he S2 k34
      have st := new_ (o := .tup [ev o1, ev o2]) ht
      have hd5 := st _ _ hd4
      refine ⟨acc, hd5, ?_, n4, by omega, (S4.same st).lst hd5 Da Dl, keep_upd ((k2.trans k34).trans (Keep.of st)) hD, acc ++ [.ref t], ds ++ [(o1, o2)], upd_same, ?_, ?_, ?_⟩
      · rw [he.1, hl]
        exact Nat.lt_of_lt_of_le hi (Nat.le_trans sz48 (by decide))
      · exact ((he4.same st).imp fun c r q => TupOf.lst q hd5).push (TupOf.lst (f := lv) (r := (o1, o2)) upd_same hd5)
      · rw [List.length_append, hl]
        rfl
      · intro d hd'
        rcases List.mem_append.mp hd' with hd' | hd'
        · exact ho d hd'
        · cases List.mem_singleton.mp hd'
          exact ⟨e1, e2⟩
    · rintro H2 ⟨n', hn', S2, k2, acc, ds, hd, he, hl, ho⟩
      refine kk Dd acc ds n' H2 hd (k1.none Da Dl hD) Da Dl he ⟨by omega, by omega, ?_⟩ (by omega) S2 (by omega) (k1.trans k2)
      rw [hl]
      exact ho
theorem atI_last {xs : List V} {x : V} : atI (xs ++ [x]) (-1) = some x := by
  unfold atI ixN
  rw [List.length_append]
  simp only [List.length_singleton]
  rw [if_neg (by decide), if_pos (by omega)]
  rw [Option.bind_some, show ((-1 : Int) + ((xs.length + 1 : Nat) : Int)).toNat = xs.length by omega, List.getElem?_append_right (Nat.le_refl _), Nat.sub_self]
  rfl
theorem snoc_of {α : Type} {xs : List α} (h : xs ≠ []) : ∃ ys y, xs = ys ++ [y] := ⟨xs.dropLast, xs.getLast h, (List.dropLast_concat_getLast h).symm⟩
end
end PA

set_option maxHeartbeats 4000000
namespace PA
open PySem L2 RZ
open C8 (pss_cut tCut)
theorem pe_bmF {X : Cx} {K : PySem.W.Frag} (hK : X.K = K) {o e : PySem.Expr} {es : List PySem.Expr} {to : TE} {t : TA} {name : Str} {apos cpos : Pos} {T id : String} {r : V → List V → Hp → VK → Prop} (pa : PlainAttrs T) (sl : Slot T name id) (hty : typeOf (Value.builtin id) = pure (Value.type "method_descriptor")) (hm : MtR X id r) (ho : PE X o to) (ha : PA X (e :: es) t)
    (h1 : attributeBase o name X.env (eval o X.env) = eval o X.env := by rfl)
    (h2 : ((((backTo cpos (starEach (e :: es) X.env)).all fun x => !x.fst) && (backToKw cpos (keywordEach [] X.env)).all fun x => x.fst.isSome) && decide (((e :: es).length + ([] : List Keyword).length + if ([] : List Keyword).isEmpty = true then 0 else 1) < 30)) = true := by rfl)
    (h3 : (apos.endLine == cpos.line) = true := by rfl)
    (h4 : starEach (e :: es) X.env = (false, eval e X.env) :: starEach es X.env := by rfl)
    (h5 : ((backTo cpos (starEach es X.env)).any fun x => x.fst) = false := by rfl) : PE X ((o.Attribute name apos).Call (e :: es) [] cpos) (tBM K T r to t) := by
  subst hK
  exact pe_bm pa sl hty hm ho ha h1 h2 h3 h4 h5
theorem erase_perm {α : Type} {l : List α} {i : Nat} (h : i < l.length) : (l[i] :: l.eraseIdx i).Perm l := by
  rw [List.eraseIdx_eq_take_drop_succ]
  have e : l.take i ++ l[i] :: l.drop (i + 1) = l := by
    rw [← List.drop_eq_getElem_cons h, List.take_append_drop]
  have p : (l.take i ++ l[i] :: l.drop (i + 1)).Perm (l[i] :: (l.take i ++ l.drop (i + 1))) := List.perm_middle
  rw [e] at p
  exact p.symm
theorem keep_updB {a l D : Addr} {H H' : Hp} {o : HO} (k : Keep a l H H') (hD : H D = Option.none) : Keep a l H (upd H' D o) := fun c u ca cl e => by
  rw [upd_ne (ne_of_none e hD)]
  exact k c u ca cl e
theorem keep_none {a l : Addr} {H H' : Hp} {p : Addr} (k : Keep a l H H') (pa : p ≠ a) (pl : p ≠ l) (h : H' p = Option.none) : H p = Option.none := by
  cases e : H p with
  | none => rfl
  | some o => rw [k p o pa pl e] at h; cases h
def spMixed : Sp := fun vs H Q _ => ∃ (a l L : Addr) (n : Nat) (xs : List V), vs = [.ref a, .ref L] ∧ StreamAt H a l n ∧ n ≤ 20000 ∧ H L = some (.lst xs) ∧ xs.length ≤ 48 ∧
  ∀ (t : Addr) (ys : List V) (H' : Hp), H' t = some (.lst ys) → ys.Perm xs → t ≠ a → t ≠ l → H t = none → StreamAt H' a l (n + xs.length) → Keep a l H H' → Q (.ref t) H'
section
variable {P : Program} {w : World} {K : PySem.W.Frag} {mg : Str → Option Value} {base : Heap} {C : Addr}
theorem scMixed : FnScope ["_law_stream", "_law_some", "_law_left", "_law_k"] ["_law_stream", "_law_some"] (defScope sMixed) := ⟨rfl, rfl, rfl, by decide +kernel, rfl, by decide +kernel, by decide +kernel⟩
theorem ok_mixed {f g : Addr} {fd gd : FuncData} (F : Fun K "_law_mixed" "_law_mixed" sMixed f fd) (T : Txt K mg) (D : Df K mg "_law_draw" sDraw g gd ["_law_stream", "_law_many"]) : FnOk P w K mg base CX0 2 f fd ["_law_stream", "_law_some"] spMixed := by
  have G : FnOk P w K mg base CX0 1 g gd ["_law_stream", "_law_many"] spDraw := ok_draw D.F T
  refine F.ok scMixed (fun vs H Q E h => ?_) (fun cdv A outer s H vs Q E hr h => ?_)
  · obtain ⟨a, l, L, n, _, rfl, _⟩ := h
    rfl
  · obtain ⟨a, l, L, n, xs, rfl, S0, hn, hL, h48, kk⟩ := h
    refine ⟨_, pss_cons (ps_set (i := 2) scMixed.nd rfl (Or.inr rfl) (pe_callTy call_list_of (by rfl) T.list_ boot_list' (pa_cons (pv 1) pa_nil)))
      (pss_one (ps_ret (pe_lc (own := [("_law_k", 3)]) (g := gName 3) (tt := tYes) (by rfl) scMixed.nd (pi_range1 (by rfl) T.range_ (pa_cons (pe_callB call_len_seq (by rfl) T.len_ PySem.boot_len (pa_cons (pv 2) pa_nil)) pa_nil)) (blkOk_by (N := ["_law_stream", "_law_some", "_law_left", "_law_k"]) (sc := defScope sMixed) (by decide +kernel))
          (fun _ _ _ _ _ => pg_name (i := 3) scMixed.nd rfl (Or.inl rfl)) (fun _ _ _ _ _ => pts_nil)
          (fun _ _ _ _ _ => pe_bmF (K := K) rfl PySem.F.plainAttrs_list PySem.F.slot_list_pop PySem.F.type_list_pop mt_popAt (pv 2) (pa_cons (pe_call G hr rfl D.M D.F.kp D.B .nil pass0 (pa_cons (pv 0) (pa_cons (pe_callB (call_lenK (K := K) rfl) (by rfl) T.len_ PySem.boot_len (pa_cons (pv 2) pa_nil)) pa_nil))) pa_nil))))), ?_⟩
    refine ⟨_, rfl, L, xs, rfl, .inl (SqL.of hL), fun W hW => ?_⟩
    have sW := new_ (o := .lst xs) hW
    obtain ⟨Wa, Wl⟩ := S0.ne hW
    refine ⟨_, rfl, W, _, rfl, .inl (SqL.of upd_same), _, rfl, by omega, by omega, fun Dd hD => ?_⟩
    have hD0 : H Dd = none := by
      cases e : H Dd with
      | none => rfl
      | some o => have := sW _ _ e; rw [hD] at this; cases this
    obtain ⟨Da, Dl⟩ := S0.ne hD0
    have neWD : W ≠ Dd := fun e => by rw [← e, upd_same] at hD; cases hD
    have S1 := (S0.same sW).same (new_ (o := .lst []) hD)
    refine lc_range (n := xs.length) (fun i H' => StreamAt H' a l (n + i) ∧ Keep a l H H' ∧ ∃ left acc, H' W = some (.lst left) ∧ H' Dd = some (.lst acc) ∧ acc.length = i ∧ left.length + i = xs.length ∧ (acc ++ left).Perm xs) ?_ ?_ ?_
    · exact ⟨S1, keep_updB (keep_updB (Keep.refl _ _ _) hW) hD0, xs, [], by rw [upd_ne neWD]; exact upd_same, upd_same, rfl, rfl, List.Perm.refl _⟩
    · rintro i H2 hi ⟨S2, k2, left, acc, hw, hd, hl, hll, hp⟩
      refine ⟨rfl, ?_⟩
      dsimp only [tYes]
      rw [if_pos rfl]
      refine ⟨_, rfl, .inl ⟨rfl, _, SqL.of hw⟩, _, rfl, _, rfl, W, left, rfl, .inl (SqL.of hw), a, l, _, _, rfl, S2, by omega, by omega, sm48 (by omega) (by omega), fun r H3 r0 r1 S3 k3 => ?_⟩
      have hw3 := k3 _ _ Wa Wl hw
      have hd3 := k3 _ _ Da Dl hd
      have hlt : r.toNat < left.length := by omega
      have hx : left[r.toNat]? = some left[r.toNat] := List.getElem?_eq_getElem hlt
      have hsi : seqIndex? r left.length = some r.toNat := by
        unfold seqIndex?
        have e : ¬ r < 0 := by omega
        have e2 : r < (left.length : Int) := by omega
        simp [e, r0, e2]
      refine ⟨W, left, r, r.toNat, left[r.toNat], rfl, rfl, hw3, by omega, by omega, hsi, hx, ?_⟩
      refine ⟨acc, by rw [upd_ne neWD.symm]; exact hd3, Nat.lt_of_lt_of_le (by omega : acc.length < 49) (by decide), ?_⟩
      have hw4 : (upd H3 W (.lst (left.eraseIdx r.toNat))) Dd = some (.lst acc) := by rw [upd_ne neWD.symm]; exact hd3
      refine ⟨(S3.lst hw3 Wa Wl).lst hw4 Da Dl |>.at_ (by omega), keep_updB (keep_updB (k2.trans k3) hW) hD0, left.eraseIdx r.toNat, acc ++ [left[r.toNat]], by rw [upd_ne neWD]; exact upd_same, upd_same, by rw [List.length_append, hl]; rfl, by rw [List.length_eraseIdx_of_lt hlt]; omega, ?_⟩
      refine List.Perm.trans ?_ hp
      rw [List.append_assoc]
      exact List.Perm.append_left _ (erase_perm hlt)
    · rintro H2 ⟨S2, k2, left, acc, hw, hd, hl, hll, hp⟩
      have : left = [] := List.length_eq_zero_iff.mp (by omega)
      subst this
      rw [List.append_nil] at hp
      exact kk Dd acc H2 hd hp Da Dl hD0 S2 k2
end
end PA

set_option maxHeartbeats 2000000
/-! dicts whose keys are tuples of ints, bools, texts and None -/
namespace L2
open PySem PySem.Spec PyProof.Rows
/-- the value v counts as the leaf k -/
def lfIs : Leaf → V → Prop
  | .none, v => v = .non
  | .num i, v => v = .int i ∨ ∃ b : Bool, v = .bl b ∧ i = if b = true then 1 else 0
  | .text x, v => v = .str x
theorem lf_is {k : Leaf} {v : V} {u : Value} (h : lfIs k v) (r : RelV v u) : Leaf.isOf k u = true := by
  cases k with
  | none =>
    cases (show v = .non from h)
    cases (show u = Value.none from r)
    rfl
  | num i =>
    rcases (show v = .int i ∨ ∃ b : Bool, v = .bl b ∧ i = if b = true then 1 else 0 from h) with rfl | ⟨b, rfl, e⟩
    · obtain ⟨t, rfl⟩ := r
      exact decide_eq_true rfl
    · cases (show u = Value.bool b from r)
      exact decide_eq_true e.symm
  | text x =>
    cases (show v = .str x from h)
    obtain ⟨t, rfl⟩ := r
    show Value.isStrOf x (.str x t) = true
    simp [Value.isStrOf]
abbrev LKey := List Leaf
/-- a tuple that is the key k stands at b -/
def KeyAt (H : Hp) (b : Addr) (k : LKey) : Prop := ∃ xs, H b = some (.tup xs) ∧ Paired lfIs k xs
theorem lfs_are {P : Program} {w : World} : ∀ {ks : LKey} {xs : List V} {us : List Value}, Paired lfIs ks xs → Vals xs us → ItemsAre (leafKind P w) ks us
  | [], _, _, .nil, .nil => .nil
  | _ :: _, _, _, .cons h t, .cons r rs => .cons (lf_is h r) (lfs_are t rs)
abbrev dxK (P : Program) (w : World) : HeapKind P w LKey := tupleKind (leafKind P w)
section
variable {P : Program} {w : World} {H H' : Hp} {h : Heap} {a b d : Addr}
theorem KeyAt.is {k : LKey} (x : KeyAt H b k) (ok : HOk P w H h) : (dxK P w).is h k b := by
  obtain ⟨xs, e, r⟩ := x
  obtain ⟨_, its, rv, o, h1, h2, n, h3⟩ := (show ObjOk P w H h b (.tup xs) from ok b _ e)
  exact ⟨o, its.toArray, n, h1, h2, h3, by simpa using lfs_are r rv⟩
theorem KeyAt.kt {k : LKey} (x : KeyAt H b k) (kt : ∀ c ys, H c = some (.tup ys) → H' c = some (.tup ys)) : KeyAt H' b k := let ⟨xs, e, r⟩ := x; ⟨xs, kt _ _ e, r⟩
abbrev DE := LKey × Addr × V
abbrev DW := LKey × Addr × Value
abbrev DRel : List DE → List DW → Prop := Paired fun (p : DE) (q : DW) => p.1 = q.1 ∧ p.2.1 = q.2.1 ∧ RelV p.2.2 q.2.2
def dxR (P : Program) (w : World) (a : Addr) (kvs : List DE) (h : Heap) : Prop := kvs.length ≤ sizeLine ∧ (a == sysModules) = false ∧
  ∃ xs : List DW, DRel kvs xs ∧ ∃ o es ep, h.get? a = some o ∧ o.ExactDict ∧ o.data = .dict es ep ∧ es.toList = xs.map (entryOfKey (dxK P w)) ∧ (xs.map (·.1)).Nodup
/-- the dict at a with these entries: key, the tuple that is the key, value -/
def DX (P : Program) (w : World) (a : Addr) (kvs : List DE) : HO := .ext (dxR P w a kvs)
theorem dx_ok {kvs : List DE} (R : dxR P w a kvs h) : ObjOk P w H h a (DX P w a kvs) := by
  obtain ⟨z, y, xs, r, o, es, ep, h1, h2⟩ := id R
  refine ⟨R, ⟨o, h1⟩, fun g1 g2 p k => ?_⟩
  obtain ⟨z, y, xs, r, o, es, ep, h1, h2⟩ := p
  exact ⟨z, y, xs, r, o, es, ep, k _ h1, h2⟩
/-- the dict at d: keys and values -/
def DxAt (P : Program) (w : World) (H : Hp) (d : Addr) (ps : List (LKey × V)) : Prop := ∃ kvs : List DE, H d = some (DX P w d kvs) ∧ kvs.map (fun p => (p.1, p.2.2)) = ps ∧ ∀ p ∈ kvs, KeyAt H p.2.1 p.1
theorem DxAt.kt {ps : List (LKey × V)} (x : DxAt P w H d ps) (hd : ∀ o, H d = some o → H' d = some o) (kt : ∀ c ys, H c = some (.tup ys) → H' c = some (.tup ys)) : DxAt P w H' d ps :=
  let ⟨kvs, e, m, k⟩ := x; ⟨kvs, hd _ e, m, fun p hp => (k p hp).kt kt⟩
theorem DxAt.same {ps : List (LKey × V)} (x : DxAt P w H d ps) (s : ∀ b o, H b = some o → H' b = some o) : DxAt P w H' d ps := x.kt (fun _ e => s _ _ e) fun _ _ e => s _ _ e
theorem dx_val {kvs : List DE} {xs : List DW} (r : DRel kvs xs) (k : LKey) : RelO (valV (kvs.map fun p => (p.1, p.2.2)) k) ((atKey xs k).map (·.2)) := by
  induction r with
  | nil => exact True.intro
  | @cons p q ps qs h t ih =>
    obtain ⟨h1, h2, h3⟩ := h
    rw [List.map_cons]
    by_cases e : p.1 = k
    · have b : atKey (q :: qs) k = some q.2 := by simp [atKey, List.find?_cons, h1.symm.trans e]
      rw [valV_pos e, b]
      exact h3
    · have b : atKey (q :: qs) k = atKey qs k := by
        have e' : ¬ q.1 = k := fun z => e (h1.trans z)
        simp [atKey, List.find?_cons, e']
      rw [valV_neg e, b]
      exact ih
theorem dx_of {kvs : List DE} (ok : HOk P w H h) (e : H d = some (DX P w d kvs)) (ka : ∀ p ∈ kvs, KeyAt H p.2.1 p.1) : kvs.length ≤ sizeLine ∧ (d == sysModules) = false ∧ ∃ xs, DRel kvs xs ∧ h.DictOfH (dxK P w) d xs := by
  obtain ⟨z, y, xs, r, o, es, ep, h1, h2, h3, h4, h5⟩ := (ok d _ e).1
  refine ⟨z, y, xs, r, o, es, ep, h1, h2, h3, h4, fun x hx => ?_, h5⟩
  have all : ∀ {l : List DE} {m : List DW}, DRel l m → (∀ p ∈ l, KeyAt H p.2.1 p.1) → ∀ x ∈ m, (dxK P w).is h x.1 x.2.1 := by
    intro l m q
    induction q with
    | nil => intro _ x hx; cases hx
    | @cons p q ps qs hq t ih =>
      intro g x hx
      rcases List.mem_cons.mp hx with rfl | hx
      · have := (g p List.mem_cons_self).is ok
        rw [hq.1, hq.2.1] at this
        exact this
      · exact ih (fun p hp => g p (List.mem_cons_of_mem _ hp)) x hx
  exact all r ka x hx
end
section
variable {X : Cx}
theorem op_in_dx (hu : X.A.units + 1 < cLine) : OpR X (compareOp .In) (fun x y H Q => ∃ d b ps k, x = .ref b ∧ y = .ref d ∧ DxAt X.prog X.w H d ps ∧ KeyAt H b k ∧ Q (.bl (valV ps k).isSome) H) := by
  intro pins s σ H x y v u Q I rx ry h
  obtain ⟨d, b, ps, k, rfl, rfl, ⟨kvs, e, rfl, ka⟩, hk, q⟩ := h
  cases rx
  cases ry
  obtain ⟨z, hd, xs, r, dd⟩ := dx_of I.hok e ka
  refine wpAny_in_heap (tupleKind_room_in1 hu) (hk.is I.hok) hd dd ?_
  have e2 := (dx_val r k).isSome_eq
  rw [Option.isSome_map] at e2
  rw [← e2]
  exact ⟨.bl _, H, I.tok _, rfl, q⟩
theorem op_notIn_dx (hu : X.A.units + 1 < cLine) : OpR X (compareOp .NotIn) (fun x y H Q => ∃ d b ps k, x = .ref b ∧ y = .ref d ∧ DxAt X.prog X.w H d ps ∧ KeyAt H b k ∧ Q (.bl (!(valV ps k).isSome)) H) := by
  intro pins s σ H x y v u Q I rx ry h
  obtain ⟨d, b, ps, k, rfl, rfl, ⟨kvs, e, rfl, ka⟩, hk, q⟩ := h
  cases rx
  cases ry
  obtain ⟨z, hd, xs, r, dd⟩ := dx_of I.hok e ka
  refine wpAny_notIn_heap (tupleKind_room_in1 hu) (hk.is I.hok) hd dd ?_
  have e2 := (dx_val r k).isSome_eq
  rw [Option.isSome_map] at e2
  rw [← e2]
  exact ⟨.bl _, H, I.tok _, rfl, q⟩
theorem ix_dx (hu : X.A.units + 1 < cLine) : IxR X (fun x y H Q => ∃ d b ps k v, x = .ref d ∧ y = .ref b ∧ DxAt X.prog X.w H d ps ∧ KeyAt H b k ∧ valV ps k = some v ∧ Q v H) := by
  intro value slice pins s σ H x y v u Q I rx ry h hs
  obtain ⟨d, b, ps, k, r, rfl, rfl, ⟨kvs, e, rfl, ka⟩, hk, hv, q⟩ := h
  cases rx
  cases ry
  obtain ⟨z, hd, xs, rel, dd⟩ := dx_of I.hok e ka
  obtain ⟨w', hw, rw'⟩ := RelO.some_of (v := r) (o := (atKey xs k).map (·.2)) (by rw [← hv]; exact dx_val rel k)
  obtain ⟨p, hp, hp2⟩ := Option.map_eq_some_iff.mp hw
  refine tail_any dd.typeIs slot_dict_getitem.lookup (wpAny_getItem_heap (tupleKind_room_in1 hu) (hk.is I.hok) dd hp ?_) hs
  rw [hp2]
  exact ⟨r, H, I.tok _, rw', q⟩
/-- d[b] = v, the key is new -/
theorem set_dx (hu : X.A.units + 1 < cLine) : PSet X (fun o i v H Q => ∃ d b kvs k, o = .ref d ∧ i = .ref b ∧ H d = some (DX X.prog X.w d kvs) ∧ (∀ p ∈ kvs, KeyAt H p.2.1 p.1) ∧ KeyAt H b k ∧ valV (kvs.map fun p => (p.1, p.2.2)) k = none ∧ kvs.length < sizeLine ∧
    Q (upd H d (DX X.prog X.w d (kvs ++ [(k, b, v)])))) := by
  intro pins s σ H o i v ov iv u Q I ro ri rv h
  obtain ⟨d, b, kvs, k, rfl, rfl, e, ka, hk, hv, hl, q⟩ := h
  cases ro
  cases ri
  obtain ⟨z, hd, xs, rel, dd⟩ := dx_of I.hok e ka
  have hlen := Paired.length rel
  have hn : atKey xs k = none := by
    have e2 := (dx_val rel k).isSome_eq
    rw [Option.isSome_map, hv] at e2
    cases hx : atKey xs k with
    | none => rfl
    | some p => rw [hx] at e2; cases e2
  refine wpAny_setItem_heap (hsz := by rw [← hlen]; exact z) (tupleKind_room_in1 hu) (hk.is I.hok) dd fun h' dd' hs => ?_
  have es : storedH xs k b u = xs ++ [(k, b, u)] := by
    unfold storedH
    rw [hn]
    rfl
  rw [es] at dd'
  obtain ⟨ob, en, ep, hq, h2, h3, h4, _, h5⟩ := dd'
  refine ⟨_, I.write (x := d) (e := d) (by rw [e]; exact True.intro) (.inl rfl) (fun c y hb z => (hs.2 c hb).trans z) ⟨ob, hq⟩ (dx_ok ⟨?_, hd, _, Paired.snoc rel ⟨rfl, rfl, rv⟩, ob, en, ep, hq, h2, h3, h4, h5⟩), q⟩
  rw [List.length_append]
  exact hl
theorem pe_dnewX {pos : Pos} : PE X (.Dict [] [] pos) (fun _ H Q => ∀ p, H p = none → Q (.ref p) (upd H p (DX X.prog X.w p []))) := ⟨fun pins s σ H Q I h =>
  wpAny_Dict_empty ⟨.ref s.heap.objs.size, _, I.laid (a := s.heap.objs.size) (o := DX X.prog X.w s.heap.objs.size []) (t' := s.toks) (fun _ _ q => Heap.get?_push_of_some _ q) (Nat.le_refl _)
    (dx_ok ⟨Nat.zero_le _, beq_eq_false_iff_ne.mpr (Ne.symm (Nat.ne_of_lt I.big)), [], .nil, _, #[], 0, Heap.get?_push_size _ rfl, ⟨rfl, rfl, rfl⟩, rfl, rfl, List.nodup_nil⟩), rfl, h _ (I.hok.fresh (Nat.le_refl _))⟩⟩
end
end L2

set_option maxHeartbeats 2000000
/-! d.get(x) of a dict whose keys are tuples, x a tuple or None; a display with one such key -/
namespace L2
open PySem PySem.Spec PyProof.Rows
abbrev hNon (P : Program) (w : World) : Int := (leafKind P w).hash Leaf.none
/-- None doesn't count as a key there -/
def NoNon (P : Program) (w : World) (ps : List (LKey × V)) : Prop := ∀ p ∈ ps, (dxK P w).hash p.1 ≠ hNon P w
section
variable {P : Program} {w : World} {A : Around} {E : Value → Shared → Prop} {s : Shared} {d : Addr} {xs : List DW}
theorem get_non {Q : Option Value → Shared → Prop} (hm : s.heap.DictOfH (dxK P w) d xs) (hne : ∀ x ∈ xs, (dxK P w).hash x.1 ≠ hNon P w) (h : Q none { s with toks := s.toks + 1 }) : wpAny (model P w) A (dictGet d .none) Q E s := by
  obtain ⟨o, es, ep, ho, _, hd, he, _, _⟩ := hm
  have hp : placesWithHash es.size (fun i => es[i]?.map (·.hash)) (hNon P w) = [] := by
    unfold placesWithHash
    refine List.filter_eq_nil_iff.mpr fun i hi => ?_
    have hi' : i < es.size := List.mem_range.mp hi
    have h1 : es.toList[i]? = some es[i] := by rw [Array.getElem?_toList]; exact Array.getElem?_eq_getElem hi'
    rw [he, List.getElem?_map, Option.map_eq_some_iff] at h1
    obtain ⟨x, hx, e⟩ := h1
    have h2 := hne x (List.mem_of_getElem? hx)
    dsimp only
    rw [Array.getElem?_eq_getElem hi', ← e]
    intro z
    refine h2 ?_
    simpa [entryOfKey] using z
  unfold dictGet
  try with_reducible refine wpAny_holding ?_
  refine wpAny_bind ((leafKind P w).pyHash (k := Leaf.none) (v := .none) rfl (wpAny_bind ?_))
  unfold dictFind
  try with_reducible refine wpAny_holding ?_
  refine wpAny_bind (wpAny_dictEntries (s := { s with toks := s.toks + 1 }) ho hd ?_)
  dsimp only
  rw [hp]
  rw [if_pos (by rfl)]
  unfold dictWalkPlain
  rw [List.forIn_nil]
  exact wpAny_bind (wpAny_pure (wpAny_pure (wpAny_pure h)))
end
/-- {k: v}; the new dict stands empty while they are made -/
def tDisp1 (P : Program) (w : World) (tk tv : TE) : TE := fun σ H Q => ∀ p, H p = none → tk σ (upd H p (DX P w p [])) fun x H1 => tv σ H1 fun y H2 => ∃ b key, x = .ref b ∧ H2 p = some (DX P w p []) ∧ KeyAt H2 b key ∧ Q (.ref p) (upd H2 p (DX P w p [(key, b, y)]))
theorem one_of {F : V → V → Prop} {ps : List (V × V)} (h : match ps with | [(x, y)] => F x y | _ => False) : ∃ x y, ps = [(x, y)] ∧ F x y := by
  match ps, h with
  | [(x, y)], h => exact ⟨x, y, rfl, h⟩
theorem vv_one {x y : V} {ws : List (Value × Value)} (r : VV [(x, y)] ws) : ∃ u v, ws = [(u, v)] ∧ RelV x u ∧ RelV y v := by
  cases r with
  | cons h t =>
    cases t
    exact ⟨_, _, rfl, h.1, h.2⟩
theorem pe_disp1 {X : Cx} {pos : Pos} {k v : PySem.Expr} {tk tv : TE} (hu : X.A.units + 1 < cLine) (hk : PE X k tk) (hv : PE X v tv) : PE X (.Dict [some k] [v] pos) (tDisp1 X.prog X.w tk tv) := by
  refine ⟨fun pins s σ H Q I q => ?_⟩
  have hn := I.hok.fresh (Nat.le_refl s.heap.objs.size)
  have I1 := I.laid (a := s.heap.objs.size) (o := DX X.prog X.w s.heap.objs.size []) (h' := s.heap.push { cls := .type "dict", data := .dict #[] }) (t' := s.toks) (fun _ _ q => Heap.get?_push_of_some _ q) (Nat.le_refl _)
    (dx_ok ⟨Nat.zero_le _, beq_eq_false_iff_ne.mpr (Ne.symm (Nat.ne_of_lt I.big)), [], .nil, _, #[], 0, Heap.get?_push_size _ rfl, ⟨rfl, rfl, rfl⟩, rfl, rfl, List.nodup_nil⟩)
  have hs : (evalEachOpt [some k] X.env).zip ((evalEach [v] X.env).map fun v => do let x ← v; standAt pos; pure x) = [(eval k X.env, (do let x ← eval v X.env; standAt pos; pure x : Sem Value))].map fun p => (some p.1, p.2) := rfl
  rw [arm_eval_Dict, hs, dictDisplay_pairs _ (by simp) (by simp)]
  have go := (pps_cons (pos := pos) hk hv pps_nil).run pins _ σ _ (fun ps H2 => match ps with | [(x, y)] => (fun x y => ∃ b key, x = .ref b ∧ H2 s.heap.objs.size = some (DX X.prog X.w s.heap.objs.size []) ∧ KeyAt H2 b key ∧ Q (.ref s.heap.objs.size) (upd H2 s.heap.objs.size (DX X.prog X.w s.heap.objs.size [(key, b, y)]))) x y | _ => False) I1 (q _ hn)
  refine wpAny_bind (wpAny_standAt (wpAny_bind (wpAny_subDictH (knd := dxK X.prog X.w) (Nat.lt_of_succ_lt hu) (by simp) (thn go fun ws s2 ⟨ps, H2, I2, rel, q3⟩ => ?_))))
  obtain ⟨x, y, rfl, q3⟩ := one_of q3
  obtain ⟨u, yv, rfl, r1, r2⟩ := vv_one rel
  obtain ⟨b, key, rfl, e, hkey, q2⟩ := q3
  · · cases (show u = .ref b from r1)
      obtain ⟨z, hd, xs0, r0, dd⟩ := dx_of I2.hok e (fun p hp => by cases hp)
      cases r0
      refine ⟨[(key, b, yv)], ⟨rfl, rfl, hkey.is I2.hok, True.intro⟩, dd, fun h' tk' dd' hs' => wpAny_pure ?_⟩
      have es : storedAllH [] [(key, b, yv)] = [(key, b, yv)] := rfl
      rw [es] at dd'
      obtain ⟨ob, en, ep', hq, h2, h3, h4, _, h5⟩ := dd'
      exact ⟨.ref s.heap.objs.size, _, I2.write (x := s.heap.objs.size) (e := s.heap.objs.size) (by rw [e]; exact True.intro) (.inl rfl) (fun c y hb z => (hs'.2 c hb).trans z) ⟨ob, hq⟩
        (dx_ok ⟨by show 1 ≤ sizeLine; decide, hd, _, .cons ⟨rfl, rfl, r2⟩ .nil, ob, en, ep', hq, h2, h3, h4, h5⟩), rfl, q2⟩
/-- d.get(x) -/
def tDxGet (P : Program) (w : World) (to te : TE) : TE := fun σ H Q => to σ H fun x H1 => ∃ d, x = .ref d ∧ (∃ kvs, H1 d = some (DX P w d kvs)) ∧ te σ H1 fun y H2 => ∃ ps, DxAt P w H2 d ps ∧ ((∃ b key, y = .ref b ∧ KeyAt H2 b key ∧ Q ((valV ps key).getD .non) H2) ∨ (y = .non ∧ NoNon P w ps ∧ Q .non H2))
theorem pe_dxget {X : Cx} {o e : PySem.Expr} {to te : TE} {apos cpos : Pos} (hu : X.A.units + 1 < cLine) (ho : PE X o to) (he : PE X e te)
    (h1 : attributeBase o "get" X.env (eval o X.env) = eval o X.env := by rfl)
    (h2 : ((((backTo cpos (starEach [e] X.env)).all fun x => !x.1) && (backToKw cpos (keywordEach [] X.env)).all fun x => x.1.isSome) && decide (([e].length + ([] : List Keyword).length + if ([] : List Keyword).isEmpty = true then 0 else 1) < 30)) = true := by rfl)
    (h3 : (apos.endLine == cpos.line) = true := by rfl)
    (h4 : backTo cpos (starEach [e] X.env) = [(false, eval e X.env)] := by rfl) :
    PE X ((o.Attribute "get" apos).Call [e] [] cpos) (tDxGet X.prog X.w to te) := by
  refine ⟨fun pins s σ H Q I h => wpAny_Call_method_late h1 h2 h3 h4 (thn (ho.run pins s σ H _ I h) fun v s1 q => ?_)⟩
  obtain ⟨x, H1, I1, rx, d, rfl, ⟨kv0, e0⟩, q⟩ := q
  cases rx
  obtain ⟨_, _, xs0, _, o0, es0, ep0, w1, w2, w3, _⟩ := (I1.hok d _ e0).1
  have ty0 : s1.TypeIs (.ref d) "dict" := ⟨_, w1, w2.1⟩
  refine ⟨"dict", "dict.get", PySem.F.plainAttrs_dict, PySem.F.slot_dict_get, PySem.F.type_dict_get, ty0, fun b hb => ?_, ?_⟩
  · cases hb
    exact ⟨_, w1, w2.2.1⟩
  · refine method1_meetsIn PySem.F.slot_dict_get PySem.F.entry_dict_get (thn (he.run pins s1 σ H1 _ I1 q) fun key s2 q2 => ?_)
    obtain ⟨yv, H2, I2, ry, ps, ⟨kvs, ek, rfl, ka⟩, q2⟩ := q2
    obtain ⟨z, hd, xs, rel, dd⟩ := dx_of I2.hok ek ka
    rcases q2 with ⟨b, key', rfl, hk, q2⟩ | ⟨rfl, hno, q2⟩
    · cases ry
      refine ⟨dd.typeIs, PySem.F.args_dict_get_2 _ _, _, meetsH_dict_get (dxK X.prog X.w) d b hd, tupleKind_room_in1 hu, key', xs, hk.is I2.hok, dd, ?_⟩
      refine ⟨_, H2, I2.tok _, ?_, q2⟩
      have r := dx_val rel key'
      cases h5 : valV (kvs.map fun p => (p.1, p.2.2)) key' with
      | none =>
        rw [h5] at r
        cases h6 : (atKey xs key').map (·.2) with
        | none => exact rfl
        | some u => rw [h6] at r; exact r.elim
      | some vv =>
        rw [h5] at r
        cases h6 : (atKey xs key').map (·.2) with
        | none => rw [h6] at r; exact r.elim
        | some u => rw [h6] at r; exact r
    · cases (show key = .none from ry)
      have hne : ∀ x ∈ xs, (dxK X.prog X.w).hash x.1 ≠ hNon X.prog X.w := by
        intro x hx
        obtain ⟨i, hi, e⟩ := List.getElem_of_mem hx
        have hl := Paired.length rel
        have hi' : i < kvs.length := by omega
        have hp : kvs[i].1 = x.1 := by
          have : ∀ {l : List DE} {m : List DW}, DRel l m → ∀ (i : Nat) (h1 : i < l.length) (h2 : i < m.length), l[i].1 = m[i].1 := by
            intro l m r
            induction r with
            | nil => intro i h1; cases h1
            | @cons p q ps qs hq t ih =>
              intro i h1 h2
              cases i with
              | zero => exact hq.1
              | succ i => exact ih i (Nat.lt_of_succ_lt_succ h1) (Nat.lt_of_succ_lt_succ h2)
          rw [← e]
          exact this rel i hi' hi
        rw [← hp]
        exact hno (kvs[i].1, kvs[i].2.2) (List.mem_map.mpr ⟨kvs[i], List.getElem_mem .., rfl⟩)
      refine ⟨dd.typeIs, PySem.F.args_dict_get_2 _ _, fun A R s => s.heap.DictOfH (dxK X.prog X.w) d xs ∧ R (.ok (.ret .none)) { s with toks := s.toks + 1 }, .of_wp fun A R s ⟨hm, hq⟩ => ?_, dd, V.non, H2, I2.tok _, rfl, q2⟩
      show wpAny _ _ (dictGet d .none >>= _) _ _ s
      refine wpAny_bind (get_non hm hne ?_)
      show wpAny _ _ (Builtin.Dict.missed d .none >>= _) _ _ _
      exact wpAny_bind (wpAny_missed_other hd (wpAny_pure ⟨.none, rfl, hq⟩))
theorem pe_dxgetK {X : Cx} {P : Program} {w : World} {o e : PySem.Expr} {to te : TE} {apos cpos : Pos} (hP : X.prog = P) (hw : X.w = w) (hu : X.A.units + 1 < cLine) (ho : PE X o to) (he : PE X e te)
    (h1 : attributeBase o "get" X.env (eval o X.env) = eval o X.env := by rfl)
    (h2 : ((((backTo cpos (starEach [e] X.env)).all fun x => !x.1) && (backToKw cpos (keywordEach [] X.env)).all fun x => x.1.isSome) && decide (([e].length + ([] : List Keyword).length + if ([] : List Keyword).isEmpty = true then 0 else 1) < 30)) = true := by rfl)
    (h3 : (apos.endLine == cpos.line) = true := by rfl)
    (h4 : backTo cpos (starEach [e] X.env) = [(false, eval e X.env)] := by rfl) :
    PE X ((o.Attribute "get" apos).Call [e] [] cpos) (tDxGet P w to te) := by
  subst hP hw
  exact pe_dxget hu ho he h1 h2 h3 h4
end L2

namespace LF
section
variable {κ : Type} [DecidableEq κ]
/-! ### places in a list -/
def ix : List κ → κ → Nat
  | [], _ => 0
  | a :: l, k => if a = k then 0 else ix l k + 1
theorem ix_lt : ∀ {l : List κ} {k : κ}, k ∈ l → ix l k < l.length
  | [], _, h => by cases h
  | a :: l, k, h => by
    unfold ix
    by_cases e : a = k
    · rw [if_pos e]; exact Nat.succ_pos _
    · rw [if_neg e]
      rcases List.mem_cons.mp h with rfl | h
      · exact absurd rfl e
      · exact Nat.succ_lt_succ (ix_lt h)
theorem get_ix : ∀ {l : List κ} {k : κ}, k ∈ l → l[ix l k]? = some k
  | [], _, h => by cases h
  | a :: l, k, h => by
    unfold ix
    by_cases e : a = k
    · rw [if_pos e, e]; rfl
    · rw [if_neg e]
      rcases List.mem_cons.mp h with rfl | h
      · exact absurd rfl e
      · exact get_ix h
theorem ix_get : ∀ {l : List κ} {i : Nat} {k : κ}, l.Nodup → l[i]? = some k → ix l k = i
  | [], _, _, _, h => by simp at h
  | a :: l, 0, k, _, h => by
    have e : a = k := by simpa using h
    unfold ix
    rw [if_pos e]
  | a :: l, i + 1, k, hn, h => by
    have h' : l[i]? = some k := by simpa using h
    have hm : k ∈ l := List.mem_of_getElem? h'
    have hn' := List.nodup_cons.mp hn
    have e : ¬ a = k := fun e => hn'.1 (e ▸ hm)
    unfold ix
    rw [if_neg e, ix_get hn'.2 h']
theorem ix_app : ∀ {l m : List κ} {k : κ}, k ∈ l → ix (l ++ m) k = ix l k
  | [], _, _, h => by cases h
  | a :: l, m, k, h => by
    rw [List.cons_append]
    unfold ix
    by_cases e : a = k
    · rw [if_pos e, if_pos e]
    · rw [if_neg e, if_neg e]
      rcases List.mem_cons.mp h with rfl | h
      · exact absurd rfl e
      · rw [ix_app h]
theorem ix_new : ∀ {l : List κ} {k : κ}, ¬ k ∈ l → ∀ m, ix (l ++ k :: m) k = l.length
  | [], k, _, m => by
    show ix (k :: m) k = 0
    unfold ix
    rw [if_pos rfl]
  | a :: l, k, h, m => by
    rw [List.cons_append]
    unfold ix
    have h' := fun z => h (List.mem_cons_of_mem a z)
    rw [if_neg (fun e : a = k => h (by rw [e]; exact List.mem_cons_self)), ix_new h' m]
    rfl
theorem ix_inj {l : List κ} {a b : κ} (ha : a ∈ l) (hb : b ∈ l) (e : ix l a = ix l b) : a = b := by
  have h1 := get_ix ha
  have h2 := get_ix hb
  rw [e, h2] at h1
  exact (Option.some.inj h1).symm
theorem ix_map {μ : Type} [DecidableEq μ] (f : κ → μ) : ∀ {l : List κ} {k : κ}, (∀ a ∈ l, f a = f k → a = k) → ix (l.map f) (f k) = ix l k
  | [], _, _ => rfl
  | a :: l, k, h => by
    rw [List.map_cons]
    unfold ix
    by_cases e : a = k
    · rw [if_pos e, if_pos (congrArg f e)]
    · rw [if_neg e, if_neg (fun z => e (h a List.mem_cons_self z)), ix_map f (fun b hb => h b (List.mem_cons_of_mem _ hb))]
/-! ### each once, in the order of the first places -/
def push (s : List κ) (k : κ) : List κ := if k ∈ s then s else s ++ [k]
def uniq (ks : List κ) : List κ := ks.foldl push []
def numb (ks : List κ) : List Nat := ks.map fun k => ix (uniq ks) k
theorem mem_push {s : List κ} {k x : κ} : x ∈ push s k ↔ x ∈ s ∨ x = k := by
  unfold push
  by_cases h : k ∈ s
  · rw [if_pos h]
    exact ⟨.inl, fun z => z.elim id fun e => e ▸ h⟩
  · rw [if_neg h, List.mem_append, List.mem_singleton]
theorem fold_mem : ∀ {ks s : List κ} {x : κ}, x ∈ ks.foldl push s ↔ x ∈ s ∨ x ∈ ks
  | [], s, x => by simp
  | k :: ks, s, x => by
    rw [List.foldl_cons, fold_mem, mem_push, List.mem_cons]
    constructor
    · rintro ((h | h) | h)
      · exact .inl h
      · exact .inr (.inl h)
      · exact .inr (.inr h)
    · rintro (h | h | h)
      · exact .inl (.inl h)
      · exact .inl (.inr h)
      · exact .inr h
theorem uniq_mem {ks : List κ} {x : κ} : x ∈ uniq ks ↔ x ∈ ks := by
  unfold uniq
  rw [fold_mem]
  simp
theorem nodup_snoc {s : List κ} {k : κ} (h : s.Nodup) (hk : ¬ k ∈ s) : (s ++ [k]).Nodup := by
  rw [List.nodup_append]
  refine ⟨h, by simp, fun a ha b hb => ?_⟩
  rw [List.mem_singleton] at hb
  rintro rfl
  exact hk (hb ▸ ha)
theorem push_nodup {s : List κ} {k : κ} (h : s.Nodup) : (push s k).Nodup := by
  unfold push
  by_cases hk : k ∈ s
  · rw [if_pos hk]; exact h
  · rw [if_neg hk]; exact nodup_snoc h hk
theorem fold_nodup : ∀ {ks s : List κ}, s.Nodup → (ks.foldl push s).Nodup
  | [], _, h => h
  | k :: ks, s, h => by rw [List.foldl_cons]; exact fold_nodup (push_nodup h)
theorem uniq_nodup {ks : List κ} : (uniq ks).Nodup := fold_nodup List.nodup_nil
theorem fold_pre : ∀ (ks s : List κ), ∃ t, ks.foldl push s = s ++ t
  | [], s => ⟨[], by simp⟩
  | k :: ks, s => by
    obtain ⟨t, e⟩ := fold_pre ks (push s k)
    rw [List.foldl_cons, e]
    unfold push
    by_cases h : k ∈ s
    · rw [if_pos h]; exact ⟨t, rfl⟩
    · rw [if_neg h, List.append_assoc]; exact ⟨_, rfl⟩
theorem uniq_snoc (ks : List κ) (k : κ) : uniq (ks ++ [k]) = push (uniq ks) k := by
  unfold uniq
  rw [List.foldl_append]
  rfl
theorem uniq_pre (ks ls : List κ) : ∃ t, uniq (ks ++ ls) = uniq ks ++ t := by
  unfold uniq
  rw [List.foldl_append]
  exact fold_pre ls _
theorem fold_len : ∀ (ks s : List κ), (ks.foldl push s).length ≤ s.length + ks.length
  | [], s => by simp
  | k :: ks, s => by
    rw [List.foldl_cons]
    have h := fold_len ks (push s k)
    have h2 : (push s k).length ≤ s.length + 1 := by
      unfold push
      by_cases hk : k ∈ s
      · rw [if_pos hk]; omega
      · rw [if_neg hk, List.length_append]; simp
    rw [List.length_cons]
    omega
theorem uniq_len (ks : List κ) : (uniq ks).length ≤ ks.length := by
  have := fold_len ks []
  simpa [uniq] using this
theorem numb_len (ks : List κ) : (numb ks).length = ks.length := by unfold numb; rw [List.length_map]
theorem numb_get {ks : List κ} {i : Nat} {k : κ} (h : ks[i]? = some k) : (numb ks)[i]? = some (ix (uniq ks) k) := by
  unfold numb
  rw [List.getElem?_map, h]
  rfl
theorem fold_map {μ : Type} [DecidableEq μ] (f : κ → μ) : ∀ {ks s : List κ}, (∀ a b, (a ∈ ks ∨ a ∈ s) → (b ∈ ks ∨ b ∈ s) → f a = f b → a = b) → (ks.map f).foldl push (s.map f) = (ks.foldl push s).map f
  | [], s, _ => rfl
  | k :: ks, s, h => by
    rw [List.map_cons, List.foldl_cons, List.foldl_cons]
    have e : push (s.map f) (f k) = (push s k).map f := by
      unfold push
      by_cases hk : k ∈ s
      · rw [if_pos hk, if_pos (List.mem_map_of_mem hk)]
      · have : ¬ f k ∈ s.map f := fun z => by
          obtain ⟨a, ha, e⟩ := List.mem_map.mp z
          have := h a k (.inr ha) (.inl List.mem_cons_self) e
          exact hk (this ▸ ha)
        rw [if_neg hk, if_neg this, List.map_append]
        rfl
    rw [e]
    refine fold_map f fun a b ha hb => h a b ?_ ?_
    · rcases ha with ha | ha
      · exact .inl (List.mem_cons_of_mem _ ha)
      · exact (mem_push.mp ha).elim .inr fun z => .inl (z ▸ List.mem_cons_self)
    · rcases hb with hb | hb
      · exact .inl (List.mem_cons_of_mem _ hb)
      · exact (mem_push.mp hb).elim .inr fun z => .inl (z ▸ List.mem_cons_self)
theorem uniq_map {μ : Type} [DecidableEq μ] (f : κ → μ) {ks : List κ} (h : ∀ a b, a ∈ ks → b ∈ ks → f a = f b → a = b) : uniq (ks.map f) = (uniq ks).map f := by
  have := fold_map (s := []) f (ks := ks) fun a b ha hb => h a b (by simpa using ha) (by simpa using hb)
  simpa [uniq] using this
theorem numb_map {μ : Type} [DecidableEq μ] (f : κ → μ) {ks : List κ} (h : ∀ a b, a ∈ ks → b ∈ ks → f a = f b → a = b) : numb (ks.map f) = numb ks := by
  unfold numb
  rw [uniq_map f h, List.map_map]
  refine List.map_congr_left fun k hk => ?_
  exact ix_map f fun a ha e => h a k (uniq_mem.mp ha) hk e
/-- lists with the same pattern have the same numbers -/
theorem numb_congr {μ : Type} [DecidableEq μ] {ks : List κ} {ls : List μ} (hl : ks.length = ls.length) (h : ∀ (i j : Nat) (a b : κ) (c d : μ), ks[i]? = some a → ks[j]? = some b → ls[i]? = some c → ls[j]? = some d → (a = b ↔ c = d)) : numb ks = numb ls := by
  by_cases hz : ls = []
  · subst hz
    have : ks = [] := List.length_eq_zero_iff.mp hl
    subst this
    rfl
  obtain ⟨d0, _, _⟩ := List.exists_cons_of_ne_nil hz
  let f : κ → μ := fun k => ls.getD (ix ks k) d0
  have hf : ∀ (i : Nat) (a : κ), ks[i]? = some a → ls[i]? = some (f a) := by
    intro i a hi
    have hm := List.mem_of_getElem? hi
    have h1 := get_ix hm
    have hlt := ix_lt hm
    have hlt2 : ix ks a < ls.length := by rw [← hl]; exact hlt
    have hi2 : i < ls.length := by rw [← hl]; exact (List.getElem?_eq_some_iff.mp hi).1
    have e1 : ls[ix ks a]? = some ls[ix ks a] := List.getElem?_eq_getElem hlt2
    have e2 : ls[i]? = some ls[i] := List.getElem?_eq_getElem hi2
    have := (h i (ix ks a) a a _ _ hi h1 e2 e1).mp rfl
    show ls[i]? = some (ls.getD (ix ks a) d0)
    rw [List.getD_eq_getElem?_getD, e1, e2, this]
    rfl
  have e : ls = ks.map f := by
    refine List.ext_getElem? fun i => ?_
    rw [List.getElem?_map]
    cases hi : ks[i]? with
    | none =>
      rw [List.getElem?_eq_none_iff] at hi
      exact List.getElem?_eq_none_iff.mpr (by rw [← hl]; exact hi)
    | some a => exact hf i a hi
  rw [e]
  refine (numb_map f fun a b ha hb z => ?_).symm
  obtain ⟨i, hi⟩ := List.getElem?_of_mem ha
  obtain ⟨j, hj⟩ := List.getElem?_of_mem hb
  exact (h i j a b _ _ hi hj (hf i a hi) (hf j b hj)).mpr z
theorem numb_iff {ks : List κ} {i j : Nat} {a b : κ} (hi : ks[i]? = some a) (hj : ks[j]? = some b) : ((numb ks).getD i 0 = (numb ks).getD j 0) ↔ a = b := by
  rw [List.getD_eq_getElem?_getD, List.getD_eq_getElem?_getD, numb_get hi, numb_get hj]
  constructor
  · intro e
    exact ix_inj (uniq_mem.mpr (List.mem_of_getElem? hi)) (uniq_mem.mpr (List.mem_of_getElem? hj)) e
  · rintro rfl
    rfl
end
end LF

namespace LF
section
variable {L : Type} [DecidableEq L]
/-- a row: next and word after a call of the case ahead, next and word after a call of the other one -/
abbrev Row (L : Type) := Nat × L × Nat × L
def TOk (rows : List (Row L)) : Prop := ∀ r ∈ rows, r.1 < rows.length ∧ r.2.2.1 < rows.length
def at_ (cs : List Nat) (i : Nat) : Nat := cs.getD i 0
def key1 (r : Row L) : L × L := (r.2.1, r.2.2.2)
def key2 (cs : List Nat) (x : Row L × Nat) : Nat × Nat × Nat := (at_ cs x.2, at_ cs x.1.1, at_ cs x.1.2.2.1)
def split (rows : List (Row L)) (cs : List Nat) : List Nat := numb (rows.zipIdx.map (key2 cs))
def chain (rows : List (Row L)) : Nat → List Nat
  | 0 => numb (rows.map key1)
  | k + 1 => split rows (chain rows k)
def classes (rows : List (Row L)) : List Nat := chain rows rows.length
/-- one call: the word, the next state -/
def stp (rows : List (Row L)) (s : Nat) (b : Bool) : Option (L × Nat) := rows[s]?.map fun r => if b = true then (r.2.2.2, r.2.2.1) else (r.2.1, r.1)
/-- the words of a row of calls -/
def out (rows : List (Row L)) : Nat → List Bool → List (Option L)
  | _, [] => []
  | s, b :: w => match stp rows s b with
    | none => [none]
    | some (l, t) => some l :: out rows t w
variable {rows : List (Row L)}
theorem chain_len (k : Nat) : (chain rows k).length = rows.length := by
  cases k with
  | zero => unfold chain; rw [numb_len, List.length_map]
  | succ k => unfold chain split; rw [numb_len, List.length_map, List.length_zipIdx]
theorem out_cons {s : Nat} {b : Bool} {w : List Bool} {r : Row L} (h : rows[s]? = some r) : out rows s (b :: w) = some (if b = true then r.2.2.2 else r.2.1) :: out rows (if b = true then r.2.2.1 else r.1) w := by
  cases b <;> simp [out, stp, h]
/-- equal up to words of length k -/
def Eqv (rows : List (Row L)) (k i j : Nat) : Prop := ∀ w : List Bool, w.length ≤ k → out rows i w = out rows j w
theorem zip_get {i : Nat} {r : Row L} (h : rows[i]? = some r) : (rows.zipIdx)[i]? = some (r, i) := by
  rw [List.getElem?_zipIdx, h]
  simp
theorem eqv_step {k i j : Nat} {r r' : Row L} (hi : rows[i]? = some r) (hj : rows[j]? = some r') :
    Eqv rows (k + 1) i j ↔ (key1 r = key1 r' ∧ Eqv rows k r.1 r'.1 ∧ Eqv rows k r.2.2.1 r'.2.2.1) := by
  constructor
  · intro h
    have h0 := h [false] (by simp)
    have h1 := h [true] (by simp)
    rw [out_cons hi, out_cons hj] at h0 h1
    have e0 : r.2.1 = r'.2.1 := by
      have := (List.cons.inj h0).1
      simpa using this
    have e1 : r.2.2.2 = r'.2.2.2 := by
      have := (List.cons.inj h1).1
      simpa using this
    refine ⟨by unfold key1; rw [e0, e1], fun w hw => ?_, fun w hw => ?_⟩
    · have h2 := h (false :: w) (by rw [List.length_cons]; omega)
      rw [out_cons hi, out_cons hj] at h2
      simpa using (List.cons.inj h2).2
    · have h2 := h (true :: w) (by rw [List.length_cons]; omega)
      rw [out_cons hi, out_cons hj] at h2
      simpa using (List.cons.inj h2).2
  · rintro ⟨hk, h0, h1⟩ w hw
    have e0 : r.2.1 = r'.2.1 := (Prod.mk.inj hk).1
    have e1 : r.2.2.2 = r'.2.2.2 := (Prod.mk.inj hk).2
    cases w with
    | nil => rfl
    | cons b w =>
      rw [List.length_cons] at hw
      rw [out_cons hi, out_cons hj]
      cases b
      · simp only [Bool.false_eq_true, if_false]
        rw [e0, h0 w (by omega)]
      · simp only [if_true]
        rw [e1, h1 w (by omega)]
theorem eqv_mono {k m i j : Nat} (h : Eqv rows k i j) (hm : m ≤ k) : Eqv rows m i j := fun w hw => h w (Nat.le_trans hw hm)
theorem chain_iff (ok : TOk rows) : ∀ (k : Nat) {i j : Nat}, i < rows.length → j < rows.length → (at_ (chain rows k) i = at_ (chain rows k) j ↔ Eqv rows (k + 1) i j)
  | 0, i, j, hi, hj => by
    have ei : rows[i]? = some rows[i] := List.getElem?_eq_getElem hi
    have ej : rows[j]? = some rows[j] := List.getElem?_eq_getElem hj
    rw [eqv_step ei ej]
    have := numb_iff (ks := rows.map key1) (i := i) (j := j) (a := key1 rows[i]) (b := key1 rows[j]) (by rw [List.getElem?_map, ei]; rfl) (by rw [List.getElem?_map, ej]; rfl)
    unfold at_ chain
    rw [this]
    refine ⟨fun h => ⟨h, fun w hw => ?_, fun w hw => ?_⟩, fun h => h.1⟩
    · have : w = [] := List.length_eq_zero_iff.mp (by omega)
      subst this; rfl
    · have : w = [] := List.length_eq_zero_iff.mp (by omega)
      subst this; rfl
  | k + 1, i, j, hi, hj => by
    have ei : rows[i]? = some rows[i] := List.getElem?_eq_getElem hi
    have ej : rows[j]? = some rows[j] := List.getElem?_eq_getElem hj
    have oi := ok _ (List.getElem_mem hi)
    have oj := ok _ (List.getElem_mem hj)
    have := numb_iff (ks := rows.zipIdx.map (key2 (chain rows k))) (i := i) (j := j) (a := key2 (chain rows k) (rows[i], i)) (b := key2 (chain rows k) (rows[j], j)) (by rw [List.getElem?_map, zip_get ei]; rfl) (by rw [List.getElem?_map, zip_get ej]; rfl)
    have e1 := chain_iff ok k hi hj
    have e2 := chain_iff ok k oi.1 oj.1
    have e3 := chain_iff ok k oi.2 oj.2
    have e : (at_ (chain rows (k + 1)) i = at_ (chain rows (k + 1)) j) ↔ key2 (chain rows k) (rows[i], i) = key2 (chain rows k) (rows[j], j) := this
    rw [e, eqv_step ei ej]
    unfold key2
    simp only [Prod.mk.injEq]
    rw [e1, e2, e3]
    constructor
    · rintro ⟨h1, h2, h3⟩
      exact ⟨((eqv_step ei ej).mp h1).1, h2, h3⟩
    · rintro ⟨h1, h2, h3⟩
      exact ⟨(eqv_step ei ej).mpr ⟨h1, eqv_mono h2 (by omega), eqv_mono h3 (by omega)⟩, h2, h3⟩
/-! ### the chain comes to rest -/
theorem getD_of {cs : List Nat} {i x : Nat} (h : cs[i]? = some x) : at_ cs i = x := by unfold at_; rw [List.getD_eq_getElem?_getD, h]; rfl
theorem get_of_lt {cs : List Nat} {i : Nat} (h : i < cs.length) : cs[i]? = some (at_ cs i) := by
  have : cs[i]? = some cs[i] := List.getElem?_eq_getElem h
  rw [this, getD_of this]
/-- numbers by the pattern alone -/
theorem numb_self {κ : Type} [DecidableEq κ] (ks : List κ) : numb (numb ks) = numb ks := by
  refine numb_congr (by rw [numb_len]) fun i j a b c d h1 h2 h3 h4 => ?_
  have := numb_iff h3 h4
  have e1 := getD_of h1
  have e2 := getD_of h2
  unfold at_ at e1 e2
  rw [e1, e2] at this
  exact this
theorem chain_numb (k : Nat) : numb (chain rows k) = chain rows k := by
  cases k with
  | zero => exact numb_self _
  | succ k => exact numb_self _
/-- where the chain rests it rests for ever -/
theorem chain_rest {k : Nat} (h : chain rows k = chain rows (k + 1)) : ∀ m, chain rows (k + m) = chain rows k
  | 0 => rfl
  | m + 1 => by
    show split rows (chain rows (k + m)) = _
    rw [chain_rest h m]
    exact h.symm
/-- the pattern of the next one is finer -/
theorem chain_fine (ok : TOk rows) {k i j : Nat} (hi : i < rows.length) (hj : j < rows.length) (h : at_ (chain rows (k + 1)) i = at_ (chain rows (k + 1)) j) : at_ (chain rows k) i = at_ (chain rows k) j :=
  (chain_iff ok k hi hj).mpr (eqv_mono ((chain_iff ok (k + 1) hi hj).mp h) (by omega))
end
end LF

namespace LF
theorem count_lt {α : Type} {p q : α → Bool} : ∀ {l : List α}, (∀ x ∈ l, p x = true → q x = true) → (∃ x ∈ l, q x = true ∧ ¬ p x = true) → l.countP p < l.countP q
  | [], _, ⟨x, hx, _⟩ => by cases hx
  | a :: l, h, ⟨x, hx, hq, hp⟩ => by
    have h' : ∀ x ∈ l, p x = true → q x = true := fun y hy => h y (List.mem_cons_of_mem _ hy)
    have le : l.countP p ≤ l.countP q := List.countP_mono_left h'
    rw [List.countP_cons, List.countP_cons]
    rcases List.mem_cons.mp hx with rfl | hx
    · rw [if_pos hq, if_neg hp]; omega
    · have lt := count_lt h' ⟨x, hx, hq, hp⟩
      by_cases pa : p a = true
      · rw [if_pos pa, if_pos (h a List.mem_cons_self pa)]; omega
      · rw [if_neg pa]; omega
def pairs (n : Nat) : List (Nat × Nat) := (List.range n).flatMap fun i => (List.range n).map fun j => (i, j)
theorem mem_pairs {n i j : Nat} : (i, j) ∈ pairs n ↔ i < n ∧ j < n := by
  unfold pairs
  simp [List.mem_flatMap]
theorem sum_const : ∀ (l : List Nat) (n : Nat), (l.map fun _ => n).sum = l.length * n
  | [], n => by simp
  | a :: l, n => by rw [List.map_cons, List.sum_cons, sum_const l n, List.length_cons, Nat.succ_mul]; omega
theorem pairs_len (n : Nat) : (pairs n).length = n * n := by
  unfold pairs
  simp [List.length_flatMap]
  rw [sum_const, List.length_range]
section
variable {L : Type} [DecidableEq L] {rows : List (Row L)}
def same_ (cs : List Nat) (p : Nat × Nat) : Bool := decide (at_ cs p.1 = at_ cs p.2)
def mass (rows : List (Row L)) (k : Nat) : Nat := (pairs rows.length).countP (same_ (chain rows k))
theorem mass_le (k : Nat) : mass rows k ≤ rows.length * rows.length := by
  have := List.countP_le_length (p := same_ (chain rows k)) (l := pairs rows.length)
  rw [pairs_len] at this
  exact this
theorem chain_eq {a b : Nat} (h : ∀ i j, i < rows.length → j < rows.length → (at_ (chain rows a) i = at_ (chain rows a) j ↔ at_ (chain rows b) i = at_ (chain rows b) j)) : chain rows a = chain rows b := by
  rw [← chain_numb a, ← chain_numb b]
  refine numb_congr (by rw [chain_len, chain_len]) fun i j x y u v h1 h2 h3 h4 => ?_
  have hi : i < rows.length := by rw [← chain_len (rows := rows) a]; exact (List.getElem?_eq_some_iff.mp h1).1
  have hj : j < rows.length := by rw [← chain_len (rows := rows) a]; exact (List.getElem?_eq_some_iff.mp h2).1
  have := h i j hi hj
  rw [getD_of h1, getD_of h2, getD_of h3, getD_of h4] at this
  exact this
theorem mass_lt (ok : TOk rows) {k : Nat} (h : ¬ chain rows k = chain rows (k + 1)) : mass rows (k + 1) < mass rows k := by
  have : ∃ i j, i < rows.length ∧ j < rows.length ∧ at_ (chain rows k) i = at_ (chain rows k) j ∧ ¬ at_ (chain rows (k + 1)) i = at_ (chain rows (k + 1)) j := by
    refine Classical.byContradiction fun n => h (chain_eq fun i j hi hj => ⟨fun e => ?_, chain_fine ok hi hj⟩)
    exact Classical.byContradiction fun ne => n ⟨i, j, hi, hj, e, ne⟩
  obtain ⟨i, j, hi, hj, e, ne⟩ := this
  unfold mass
  refine count_lt (fun p hp => ?_) ⟨(i, j), mem_pairs.mpr ⟨hi, hj⟩, decide_eq_true e, fun z => ne (of_decide_eq_true z)⟩
  obtain ⟨a, b⟩ := p
  have hab := mem_pairs.mp hp
  intro z
  exact decide_eq_true (chain_fine ok hab.1 hab.2 (of_decide_eq_true z))
theorem mass_low (ok : TOk rows) : ∀ k, (∀ j < k, ¬ chain rows j = chain rows (j + 1)) → mass rows k + k ≤ rows.length * rows.length
  | 0, _ => mass_le 0
  | k + 1, h => by
    have h1 := mass_low ok k fun j hj => h j (by omega)
    have h2 := mass_lt ok (h k (by omega))
    omega
def cls (rows : List (Row L)) : List Nat := chain rows (rows.length * rows.length)
/-- where it rests first, that is the classes -/
theorem cls_of (ok : TOk rows) {k : Nat} (hk : ∀ j < k, ¬ chain rows j = chain rows (j + 1)) (h : chain rows k = chain rows (k + 1)) : cls rows = chain rows k := by
  have := mass_low ok k hk
  have e : rows.length * rows.length = k + (rows.length * rows.length - k) := by omega
  unfold cls
  rw [e]
  exact chain_rest h _
theorem rests (ok : TOk rows) : ∃ k ≤ rows.length * rows.length, (∀ j < k, ¬ chain rows j = chain rows (j + 1)) ∧ chain rows k = chain rows (k + 1) := by
  have go : ∀ m k, m + k = rows.length * rows.length → (∀ j < k, ¬ chain rows j = chain rows (j + 1)) → ∃ k ≤ rows.length * rows.length, (∀ j < k, ¬ chain rows j = chain rows (j + 1)) ∧ chain rows k = chain rows (k + 1) := by
    intro m
    induction m with
    | zero =>
      intro k hm hk
      refine ⟨k, by omega, hk, Classical.byContradiction fun ne => ?_⟩
      have h1 := mass_low ok (k + 1) fun j hj => by
        rcases Nat.lt_or_ge j k with h | h
        · exact hk j h
        · have : j = k := by omega
          rw [this]; exact ne
      omega
    | succ m ih =>
      intro k hm hk
      by_cases e : chain rows k = chain rows (k + 1)
      · exact ⟨k, by omega, hk, e⟩
      · refine ih (k + 1) (by omega) fun j hj => ?_
        rcases Nat.lt_or_ge j k with h | h
        · exact hk j h
        · have : j = k := by omega
          rw [this]; exact e
  exact go _ 0 rfl fun j hj => by omega
/-- no calls tell the states apart -/
def Alk (rows : List (Row L)) (i : Nat) (rows' : List (Row L)) (j : Nat) : Prop := ∀ w, out rows i w = out rows' j w
theorem cls_len : (cls rows).length = rows.length := chain_len _
theorem cls_iff (ok : TOk rows) {i j : Nat} (hi : i < rows.length) (hj : j < rows.length) : at_ (cls rows) i = at_ (cls rows) j ↔ Alk rows i rows j := by
  obtain ⟨k, _, hk, hr⟩ := rests ok
  rw [cls_of ok hk hr]
  constructor
  · intro e w
    have := (chain_iff ok (k + w.length) hi hj).mp (by rw [chain_rest hr]; exact e)
    exact this w (by omega)
  · intro h
    exact (chain_iff ok k hi hj).mpr fun w _ => h w
theorem cls_numb : numb (cls rows) = cls rows := chain_numb _
end
end LF

namespace LF
section
variable {L : Type} [DecidableEq L] {rows : List (Row L)}
def renum (f : Nat → Nat) (r : Row L) : Row L := (f r.1, r.2.1, f r.2.2.1, r.2.2.2)
def mstep (cs : List Nat) (acc : List (Row L)) (x : Row L × Nat) : List (Row L) := if at_ cs x.2 = acc.length then acc ++ [renum (at_ cs) x.1] else acc
def merged (rows : List (Row L)) (cs : List Nat) : List (Row L) := rows.zipIdx.foldl (mstep cs) []
theorem take_next {α : Type} {l : List α} {i : Nat} {x : α} (h : l[i]? = some x) : l.take (i + 1) = l.take i ++ [x] := by
  rw [List.take_add_one, h]
  rfl
theorem merged_pre {cs : List Nat} (hc : numb cs = cs) (hl : cs.length = rows.length) : ∀ i ≤ rows.length, ((rows.zipIdx.take i).foldl (mstep cs) []).length = (uniq (cs.take i)).length ∧
    ∀ j < i, ∃ j0 r0, rows[j0]? = some r0 ∧ at_ cs j0 = at_ cs j ∧ ((rows.zipIdx.take i).foldl (mstep cs) [])[at_ cs j]? = some (renum (at_ cs) r0)
  | 0, _ => ⟨rfl, fun j hj => absurd hj (Nat.not_lt_zero _)⟩
  | i + 1, hi => by
    obtain ⟨h1, h2⟩ := merged_pre hc hl i (by omega)
    have hir : i < rows.length := by omega
    have er : rows[i]? = some rows[i] := List.getElem?_eq_getElem hir
    have ec : cs[i]? = some (at_ cs i) := get_of_lt (by rw [hl]; exact hir)
    rw [take_next (zip_get er), List.foldl_append, take_next ec, uniq_snoc]
    show (mstep cs _ _).length = _ ∧ _
    have en : at_ cs i = ix (uniq cs) (at_ cs i) := by
      have := numb_get ec
      rw [hc, ec] at this
      exact Option.some.inj this
    generalize hacc : (rows.zipIdx.take i).foldl (mstep cs) [] = acc at h1 h2
    obtain ⟨t, ht⟩ := uniq_pre (cs.take (i + 1)) (cs.drop (i + 1))
    rw [List.take_append_drop, take_next ec, uniq_snoc] at ht
    by_cases hm : at_ cs i ∈ uniq (cs.take i)
    · have hp : push (uniq (cs.take i)) (at_ cs i) = uniq (cs.take i) := by unfold push; rw [if_pos hm]
      rw [hp] at ht ⊢
      have hlt : at_ cs i < acc.length := by
        rw [en, ht, ix_app hm, h1]
        exact ix_lt hm
      have hms : mstep cs acc (rows[i], i) = acc := by
        unfold mstep
        rw [if_neg (by show ¬ at_ cs i = acc.length; omega)]
      show (mstep cs acc (rows[i], i)).length = _ ∧ ∀ j < i + 1, ∃ j0 r0, rows[j0]? = some r0 ∧ at_ cs j0 = at_ cs j ∧ (mstep cs acc (rows[i], i))[at_ cs j]? = some (renum (at_ cs) r0)
      rw [hms]
      refine ⟨h1, fun j hj => ?_⟩
      rcases Nat.lt_or_ge j i with h | h
      · exact h2 j h
      · have : j = i := by omega
        subst this
        obtain ⟨j1, hj1⟩ := List.getElem?_of_mem (uniq_mem.mp hm)
        have hj1' : j1 < j := by
          have := (List.getElem?_eq_some_iff.mp hj1).1
          rw [List.length_take] at this
          omega
        have e1 : at_ cs j1 = at_ cs j := by
          rw [List.getElem?_take, if_pos hj1'] at hj1
          exact getD_of hj1
        obtain ⟨j0, r0, a, b, c⟩ := h2 j1 hj1'
        exact ⟨j0, r0, a, b.trans e1, by rw [← e1]; exact c⟩
    · have hp : push (uniq (cs.take i)) (at_ cs i) = uniq (cs.take i) ++ [at_ cs i] := by unfold push; rw [if_neg hm]
      rw [hp] at ht ⊢
      have heq : at_ cs i = acc.length := by
        have h3 : uniq cs = uniq (cs.take i) ++ at_ cs i :: t := by rw [ht, List.append_assoc]; rfl
        rw [h1]
        conv => lhs; rw [en, h3]
        exact ix_new hm t
      have hms : mstep cs acc (rows[i], i) = acc ++ [renum (at_ cs) rows[i]] := by
        unfold mstep
        rw [if_pos heq]
      show (mstep cs acc (rows[i], i)).length = _ ∧ ∀ j < i + 1, ∃ j0 r0, rows[j0]? = some r0 ∧ at_ cs j0 = at_ cs j ∧ (mstep cs acc (rows[i], i))[at_ cs j]? = some (renum (at_ cs) r0)
      rw [hms]
      refine ⟨by rw [List.length_append, List.length_append, h1]; rfl, fun j hj => ?_⟩
      rcases Nat.lt_or_ge j i with h | h
      · obtain ⟨j0, r0, a, b, c⟩ := h2 j h
        refine ⟨j0, r0, a, b, ?_⟩
        rw [List.getElem?_append_left (List.getElem?_eq_some_iff.mp c).1]
        exact c
      · have : j = i := by omega
        subst this
        exact ⟨j, rows[j], er, rfl, by rw [heq, List.getElem?_append_right (Nat.le_refl _), Nat.sub_self]; rfl⟩
abbrev mg (rows : List (Row L)) : List (Row L) := merged rows (cls rows)
theorem mg_get {j : Nat} (hj : j < rows.length) : ∃ j0 r0, rows[j0]? = some r0 ∧ at_ (cls rows) j0 = at_ (cls rows) j ∧ (mg rows)[at_ (cls rows) j]? = some (renum (at_ (cls rows)) r0) := by
  obtain ⟨_, h⟩ := merged_pre (rows := rows) (cs := cls rows) cls_numb cls_len rows.length (Nat.le_refl _)
  have e : rows.zipIdx.take rows.length = rows.zipIdx := List.take_of_length_le (by rw [List.length_zipIdx]; exact Nat.le_refl _)
  rw [e] at h
  exact h j hj
theorem mg_len : (mg rows).length = (uniq (cls rows)).length := by
  obtain ⟨h, _⟩ := merged_pre (rows := rows) (cs := cls rows) cls_numb cls_len rows.length (Nat.le_refl _)
  have e : rows.zipIdx.take rows.length = rows.zipIdx := List.take_of_length_le (by rw [List.length_zipIdx]; exact Nat.le_refl _)
  rw [e, List.take_of_length_le (by rw [cls_len]; exact Nat.le_refl _)] at h
  exact h
theorem mg_le : (mg rows).length ≤ rows.length := by
  rw [mg_len, ← cls_len (rows := rows)]
  exact uniq_len _
theorem cls_lt {j : Nat} (hj : j < rows.length) : at_ (cls rows) j < (mg rows).length := by
  obtain ⟨_, _, _, _, h⟩ := mg_get hj
  exact (List.getElem?_eq_some_iff.mp h).1
/-- each state of the merged table is the class of one -/
theorem mg_onto {k : Nat} (hk : k < (mg rows).length) : ∃ j < rows.length, at_ (cls rows) j = k := by
  rw [mg_len] at hk
  have e : (uniq (cls rows))[k]? = some (uniq (cls rows))[k] := List.getElem?_eq_getElem hk
  generalize (uniq (cls rows))[k] = u at e
  obtain ⟨j, hj⟩ := List.getElem?_of_mem (uniq_mem.mp (List.mem_of_getElem? e))
  refine ⟨j, by rw [← cls_len (rows := rows)]; exact (List.getElem?_eq_some_iff.mp hj).1, ?_⟩
  have h1 := numb_get hj
  rw [cls_numb, ix_get uniq_nodup e] at h1
  exact getD_of h1
theorem mg_ok (ok : TOk rows) : TOk (mg rows) := by
  intro r hr
  obtain ⟨k, hk⟩ := List.getElem?_of_mem hr
  obtain ⟨j, hj, e⟩ := mg_onto (List.getElem?_eq_some_iff.mp hk).1
  obtain ⟨j0, r0, h1, h2, h3⟩ := mg_get hj
  rw [e, hk] at h3
  have : r = renum (at_ (cls rows)) r0 := Option.some.inj h3
  rw [this]
  have o := ok r0 (List.mem_of_getElem? h1)
  exact ⟨cls_lt o.1, cls_lt o.2⟩
theorem alk_step (ok : TOk rows) {i j : Nat} {r r' : Row L} (hi : rows[i]? = some r) (hj : rows[j]? = some r') (h : Alk rows i rows j) : key1 r = key1 r' ∧ Alk rows r.1 rows r'.1 ∧ Alk rows r.2.2.1 rows r'.2.2.1 := by
  have h1 := (eqv_step (k := 0) hi hj).mp fun w _ => h w
  refine ⟨h1.1, fun w => ?_, fun w => ?_⟩
  · exact ((eqv_step (k := w.length) hi hj).mp fun w _ => h w).2.1 w (Nat.le_refl _)
  · exact ((eqv_step (k := w.length) hi hj).mp fun w _ => h w).2.2 w (Nat.le_refl _)
theorem mg_out (ok : TOk rows) : ∀ (w : List Bool) {j : Nat}, j < rows.length → out (mg rows) (at_ (cls rows) j) w = out rows j w
  | [], j, _ => by simp [out]
  | b :: w, j, hj => by
    obtain ⟨j0, r0, h1, h2, h3⟩ := mg_get hj
    have ej : rows[j]? = some rows[j] := List.getElem?_eq_getElem hj
    have hj0 : j0 < rows.length := (List.getElem?_eq_some_iff.mp h1).1
    have al := (cls_iff ok hj0 hj).mp h2
    obtain ⟨k1, k2, k3⟩ := alk_step ok h1 ej al
    have e0 : r0.2.1 = rows[j].2.1 := (Prod.mk.inj k1).1
    have e1 : r0.2.2.2 = rows[j].2.2.2 := (Prod.mk.inj k1).2
    have o0 := ok r0 (List.mem_of_getElem? h1)
    rw [out_cons h3, out_cons ej]
    cases b
    · show some r0.2.1 :: out (mg rows) (at_ (cls rows) r0.1) w = some rows[j].2.1 :: out rows rows[j].1 w
      rw [e0, mg_out ok w o0.1, k2 w]
    · show some r0.2.2.2 :: out (mg rows) (at_ (cls rows) r0.2.2.1) w = some rows[j].2.2.2 :: out rows rows[j].2.2.1 w
      rw [e1, mg_out ok w o0.2, k3 w]
/-- no two states are alike -/
def Apart (rows : List (Row L)) : Prop := ∀ i j, i < rows.length → j < rows.length → Alk rows i rows j → i = j
theorem mg_apart (ok : TOk rows) : Apart (mg rows) := by
  intro i j hi hj h
  obtain ⟨i', hi', rfl⟩ := mg_onto hi
  obtain ⟨j', hj', rfl⟩ := mg_onto hj
  refine (cls_iff ok hi' hj').mpr fun w => ?_
  have := h w
  rw [mg_out ok w hi', mg_out ok w hj'] at this
  exact this
end
end LF

namespace LF
/-- two lists, place by place -/
inductive F2 {α β : Type} (R : α → β → Prop) : List α → List β → Prop
  | nil : F2 R [] []
  | cons {a : α} {b : β} {l : List α} {m : List β} : R a b → F2 R l m → F2 R (a :: l) (b :: m)
section
variable {α β : Type} {R : α → β → Prop}
theorem F2.append : ∀ {l l' : List α} {m m' : List β}, F2 R l m → F2 R l' m' → F2 R (l ++ l') (m ++ m')
  | _, _, _, _, .nil, h => h
  | _, _, _, _, .cons r t, h => .cons r (t.append h)
theorem F2.len : ∀ {l : List α} {m : List β}, F2 R l m → l.length = m.length
  | _, _, .nil => rfl
  | _, _, .cons _ t => by rw [List.length_cons, List.length_cons, t.len]
theorem F2.get : ∀ {l : List α} {m : List β} {i : Nat} {a : α} {b : β}, F2 R l m → l[i]? = some a → m[i]? = some b → R a b
  | _, _, _, _, _, .nil, h, _ => by simp at h
  | _, _, 0, _, _, .cons r _, h1, h2 => by
    simp at h1 h2
    subst h1 h2
    exact r
  | _, _, i + 1, _, _, .cons _ t, h1, h2 => t.get (i := i) (by simpa using h1) (by simpa using h2)
theorem F2.left : ∀ {l : List α} {m : List β} {a : α}, F2 R l m → a ∈ l → ∃ b ∈ m, R a b
  | _, _, _, .nil, h => by cases h
  | _, _, _, .cons (b := b) r t, h => by
    rcases List.mem_cons.mp h with rfl | h
    · exact ⟨b, List.mem_cons_self, r⟩
    · obtain ⟨c, hc, q⟩ := t.left h
      exact ⟨c, List.mem_cons_of_mem _ hc, q⟩
theorem F2.right : ∀ {l : List α} {m : List β} {b : β}, F2 R l m → b ∈ m → ∃ a ∈ l, R a b
  | _, _, _, .nil, h => by cases h
  | _, _, _, .cons (a := a) r t, h => by
    rcases List.mem_cons.mp h with rfl | h
    · exact ⟨a, List.mem_cons_self, r⟩
    · obtain ⟨c, hc, q⟩ := t.right h
      exact ⟨c, List.mem_cons_of_mem _ hc, q⟩
theorem F2.of {l : List α} {m : List β} (hl : l.length = m.length) (h : ∀ (i : Nat) (a : α) (b : β), l[i]? = some a → m[i]? = some b → R a b) : F2 R l m := by
  induction l generalizing m with
  | nil =>
    cases m with
    | nil => exact .nil
    | cons _ _ => cases hl
  | cons a l ih =>
    cases m with
    | nil => cases hl
    | cons b m => exact .cons (h 0 a b rfl rfl) (ih (by simpa using hl) fun i x y h1 h2 => h (i + 1) x y (by simpa using h1) (by simpa using h2))
end
/-- different numbers below n are at most n -/
theorem few : ∀ (n : Nat) {l : List Nat}, l.Nodup → (∀ x ∈ l, x < n) → l.length ≤ n
  | 0, l, _, h => by
    cases l with
    | nil => exact Nat.le_refl _
    | cons a l => exact absurd (h a List.mem_cons_self) (Nat.not_lt_zero _)
  | n + 1, l, hn, h => by
    have h1 := few n (l := l.erase n) (hn.erase n) fun x hx => by
      have hm := List.mem_of_mem_erase hx
      have hlt := h x hm
      have ne : x ≠ n := fun e => by
        rw [e] at hx
        exact (List.Nodup.not_mem_erase hn) hx
      omega
    by_cases hm : n ∈ l
    · rw [List.length_erase_of_mem hm] at h1
      omega
    · rw [List.erase_of_not_mem hm] at h1
      omega
section
variable {L : Type} [DecidableEq L] {rows : List (Row L)}
/-- the visit: what waits, what has been visited -/
def visit (rows : List (Row L)) : Nat → List Nat → List Nat → List Nat
  | 0, _, s => s
  | _ + 1, [], s => s
  | f + 1, x :: w, s => if x ∈ s then visit rows f w s else match rows[x]? with
    | none => s
    | some r => visit rows f (w ++ [r.1, r.2.2.1]) (s ++ [x])
structure VOk (rows : List (Row L)) (w s : List Nat) : Prop where
  ok : TOk rows
  hw : ∀ x ∈ w, x < rows.length
  hs : ∀ x ∈ s, x < rows.length
  nd : s.Nodup
theorem visit_old {f x : Nat} {w s : List Nat} (h : x ∈ s) : visit rows (f + 1) (x :: w) s = visit rows f w s := by
  show (if x ∈ s then _ else _) = _
  rw [if_pos h]
theorem visit_new {f x : Nat} {w s : List Nat} {r : Row L} (h : ¬ x ∈ s) (hr : rows[x]? = some r) : visit rows (f + 1) (x :: w) s = visit rows f (w ++ [r.1, r.2.2.1]) (s ++ [x]) := by
  show (if x ∈ s then _ else match rows[x]? with | none => s | some r => visit rows f (w ++ [r.1, r.2.2.1]) (s ++ [x])) = _
  rw [if_neg h, hr]
def need (rows : List (Row L)) (w s : List Nat) : Nat := w.length + 2 * (rows.length - s.length)
theorem VOk.old {x : Nat} {w s : List Nat} (v : VOk rows (x :: w) s) : VOk rows w s := ⟨v.ok, fun y hy => v.hw y (List.mem_cons_of_mem _ hy), v.hs, v.nd⟩
theorem VOk.new {x : Nat} {w s : List Nat} {r : Row L} (v : VOk rows (x :: w) s) (h : ¬ x ∈ s) (hr : rows[x]? = some r) : VOk rows (w ++ [r.1, r.2.2.1]) (s ++ [x]) := by
  have o := v.ok r (List.mem_of_getElem? hr)
  refine ⟨v.ok, fun y hy => ?_, fun y hy => ?_, nodup_snoc v.nd h⟩
  · rcases List.mem_append.mp hy with hy | hy
    · exact v.hw y (List.mem_cons_of_mem _ hy)
    · simp at hy
      rcases hy with rfl | rfl
      · exact o.1
      · exact o.2
  · rcases List.mem_append.mp hy with hy | hy
    · exact v.hs y hy
    · rw [List.mem_singleton.mp hy]
      exact v.hw x List.mem_cons_self
theorem VOk.room {x : Nat} {w s : List Nat} (v : VOk rows (x :: w) s) (h : ¬ x ∈ s) : s.length < rows.length := by
  have := few rows.length (nodup_snoc v.nd h) fun y hy => by
    rcases List.mem_append.mp hy with hy | hy
    · exact v.hs y hy
    · rw [List.mem_singleton.mp hy]
      exact v.hw x List.mem_cons_self
  rw [List.length_append] at this
  exact this
theorem need_new {x : Nat} {w s : List Nat} {r : Row L} (v : VOk rows (x :: w) s) (h : ¬ x ∈ s) : need rows (w ++ [r.1, r.2.2.1]) (s ++ [x]) + 1 = need rows (x :: w) s := by
  have := v.room h
  unfold need
  simp
  omega
/-- more fuel changes nothing -/
theorem visit_more : ∀ (f : Nat) {w s : List Nat}, VOk rows w s → need rows w s ≤ f → visit rows (f + 1) w s = visit rows f w s
  | 0, w, s, v, h => by
    have : w = [] := List.length_eq_zero_iff.mp (by unfold need at h; omega)
    subst this
    rfl
  | f + 1, [], s, v, h => rfl
  | f + 1, x :: w, s, v, h => by
    by_cases hx : x ∈ s
    · rw [visit_old hx, visit_old hx]
      refine visit_more f v.old ?_
      unfold need at h ⊢
      rw [List.length_cons] at h
      omega
    · have hlt := v.hw x List.mem_cons_self
      have hr : rows[x]? = some rows[x] := List.getElem?_eq_getElem hlt
      rw [visit_new hx hr, visit_new hx hr]
      refine visit_more f (v.new hx hr) ?_
      have := need_new (r := rows[x]) v hx
      omega
theorem visit_fuel {f : Nat} {w s : List Nat} (v : VOk rows w s) (h : need rows w s ≤ f) : ∀ k, visit rows (f + k) w s = visit rows f w s
  | 0 => rfl
  | k + 1 => by
    rw [← Nat.add_assoc, visit_more (f + k) v (by omega)]
    exact visit_fuel v h k
/-- what a visit comes to -/
structure VEnd (rows : List (Row L)) (w s o : List Nat) : Prop where
  pre : ∃ t, o = s ++ t
  nd : o.Nodup
  lt : ∀ x ∈ o, x < rows.length
  all : ∀ x ∈ w, x ∈ o
  closed : (∀ x ∈ s, ∀ r, rows[x]? = some r → (r.1 ∈ s ∨ r.1 ∈ w) ∧ (r.2.2.1 ∈ s ∨ r.2.2.1 ∈ w)) → ∀ x ∈ o, ∀ r, rows[x]? = some r → r.1 ∈ o ∧ r.2.2.1 ∈ o
theorem visit_end : ∀ (f : Nat) {w s : List Nat}, VOk rows w s → need rows w s ≤ f → VEnd rows w s (visit rows f w s)
  | 0, w, s, v, h => by
    have : w = [] := List.length_eq_zero_iff.mp (by unfold need at h; omega)
    subst this
    refine ⟨⟨[], by simp [visit]⟩, v.nd, v.hs, fun x hx => (by cases hx), fun c x hx r hr => ?_⟩
    have := c x hx r hr
    exact ⟨this.1.elim id fun z => (by cases z), this.2.elim id fun z => (by cases z)⟩
  | f + 1, [], s, v, h => by
    refine ⟨⟨[], by simp [visit]⟩, v.nd, v.hs, fun x hx => (by cases hx), fun c x hx r hr => ?_⟩
    have := c x hx r hr
    exact ⟨this.1.elim id fun z => (by cases z), this.2.elim id fun z => (by cases z)⟩
  | f + 1, x :: w, s, v, h => by
    by_cases hx : x ∈ s
    · rw [visit_old hx]
      have e := visit_end f v.old (by unfold need at h ⊢; rw [List.length_cons] at h; omega)
      obtain ⟨t, ht⟩ := e.pre
      refine ⟨e.pre, e.nd, e.lt, fun y hy => ?_, fun c => e.closed fun y hy r hr => ?_⟩
      · rcases List.mem_cons.mp hy with rfl | hy
        · rw [ht]; exact List.mem_append_left _ hx
        · exact e.all y hy
      · have c1 := c y hy r hr
        refine ⟨c1.1.elim .inl fun z => ?_, c1.2.elim .inl fun z => ?_⟩
        · exact (List.mem_cons.mp z).elim (fun e => .inl (e ▸ hx)) .inr
        · exact (List.mem_cons.mp z).elim (fun e => .inl (e ▸ hx)) .inr
    · have hlt := v.hw x List.mem_cons_self
      have hr : rows[x]? = some rows[x] := List.getElem?_eq_getElem hlt
      rw [visit_new hx hr]
      have e := visit_end f (v.new hx hr) (by have := need_new (r := rows[x]) v hx; omega)
      obtain ⟨t, ht⟩ := e.pre
      refine ⟨⟨[x] ++ t, by rw [ht, List.append_assoc]⟩, e.nd, e.lt, fun y hy => ?_, fun c => e.closed fun y hy r hr' => ?_⟩
      · rcases List.mem_cons.mp hy with rfl | hy
        · rw [ht]; exact List.mem_append_left _ (List.mem_append_right _ (List.mem_singleton.mpr rfl))
        · exact e.all y (List.mem_append_left _ hy)
      · rcases List.mem_append.mp hy with hy | hy
        · have c1 := c y hy r hr'
          have go : ∀ z, z ∈ s ∨ z ∈ x :: w → z ∈ s ++ [x] ∨ z ∈ w ++ [rows[x].1, rows[x].2.2.1] := fun z hz => by
            rcases hz with hz | hz
            · exact .inl (List.mem_append_left _ hz)
            · rcases List.mem_cons.mp hz with rfl | hz
              · exact .inl (List.mem_append_right _ (List.mem_singleton.mpr rfl))
              · exact .inr (List.mem_append_left _ hz)
          exact ⟨go _ c1.1, go _ c1.2⟩
        · have : y = x := List.mem_singleton.mp hy
          subst this
          rw [hr] at hr'
          cases hr'
          exact ⟨.inr (List.mem_append_right _ (by simp)), .inr (List.mem_append_right _ (by simp))⟩
end
end LF

namespace LF
section
variable {L : Type} [DecidableEq L] {A B : List (Row L)}
/-- states of two tables that go alike -/
def RR (A B : List (Row L)) (a b : Nat) : Prop := a < A.length ∧ b < B.length ∧ Alk A a B b
theorem rr_step (oA : TOk A) (oB : TOk B) {a b : Nat} {r r' : Row L} (h : RR A B a b) (hr : A[a]? = some r) (hr' : B[b]? = some r') : key1 r = key1 r' ∧ RR A B r.1 r'.1 ∧ RR A B r.2.2.1 r'.2.2.1 := by
  obtain ⟨ha, hb, al⟩ := h
  have pa := oA r (List.mem_of_getElem? hr)
  have pb := oB r' (List.mem_of_getElem? hr')
  have c0 : ∀ w, r.2.1 = r'.2.1 ∧ out A r.1 w = out B r'.1 w := fun w => by
    have := al (false :: w)
    rw [out_cons hr, out_cons hr'] at this
    have h1 := (List.cons.inj this).1
    have h2 := (List.cons.inj this).2
    exact ⟨by simpa using h1, by simpa using h2⟩
  have c1 : ∀ w, r.2.2.2 = r'.2.2.2 ∧ out A r.2.2.1 w = out B r'.2.2.1 w := fun w => by
    have := al (true :: w)
    rw [out_cons hr, out_cons hr'] at this
    have h1 := (List.cons.inj this).1
    have h2 := (List.cons.inj this).2
    exact ⟨by simpa using h1, by simpa using h2⟩
  exact ⟨by unfold key1; rw [(c0 []).1, (c1 []).1], ⟨pa.1, pb.1, fun w => (c0 w).2⟩, pa.2, pb.2, fun w => (c1 w).2⟩
theorem rr_l (sA : Apart A) {a a' b : Nat} (h : RR A B a b) (h' : RR A B a' b) : a = a' := sA a a' h.1 h'.1 fun w => (h.2.2 w).trans (h'.2.2 w).symm
theorem rr_r (sB : Apart B) {a b b' : Nat} (h : RR A B a b) (h' : RR A B a b') : b = b' := sB b b' h.2.1 h'.2.1 fun w => (h.2.2 w).symm.trans (h'.2.2 w)
theorem rr_mem (sA : Apart A) (sB : Apart B) {a b : Nat} {s s' : List Nat} (h : RR A B a b) (hs : F2 (RR A B) s s') : a ∈ s ↔ b ∈ s' := by
  constructor
  · intro m
    obtain ⟨c, hc, q⟩ := hs.left m
    rw [rr_r sB h q]
    exact hc
  · intro m
    obtain ⟨c, hc, q⟩ := hs.right m
    rw [rr_l sA h q]
    exact hc
theorem visit_sim (oA : TOk A) (oB : TOk B) (sA : Apart A) (sB : Apart B) : ∀ (f : Nat) {w w' s s' : List Nat}, F2 (RR A B) w w' → F2 (RR A B) s s' → F2 (RR A B) (visit A f w s) (visit B f w' s')
  | 0, _, _, _, _, _, hs => hs
  | f + 1, _, _, _, _, .nil, hs => hs
  | f + 1, x :: w, y :: w', s, s', .cons h hw, hs => by
    have e := rr_mem sA sB h hs
    by_cases hx : x ∈ s
    · rw [visit_old hx, visit_old (e.mp hx)]
      exact visit_sim oA oB sA sB f hw hs
    · have hr : A[x]? = some (A[x]'h.1) := List.getElem?_eq_getElem h.1
      have hr' : B[y]? = some (B[y]'h.2.1) := List.getElem?_eq_getElem h.2.1
      rw [visit_new hx hr, visit_new (fun z => hx (e.mpr z)) hr']
      obtain ⟨_, h1, h2⟩ := rr_step oA oB h hr hr'
      exact visit_sim oA oB sA sB f (hw.append (.cons h1 (.cons h2 .nil))) (hs.append (.cons h .nil))
theorem ix_sim (sA : Apart A) (sB : Apart B) {o o' : List Nat} (nd : o.Nodup) (nd' : o'.Nodup) (h : F2 (RR A B) o o') {a b : Nat} (r : RR A B a b) (hm : a ∈ o) : ix o a = ix o' b := by
  have hm' := (rr_mem sA sB r h).mp hm
  have g := get_ix hm
  have hl := ix_lt hm
  have g' : o'[ix o a]? = some (o'[ix o a]'(by rw [← h.len]; exact hl)) := List.getElem?_eq_getElem _
  have q := h.get g g'
  have e := rr_r sB r q
  rw [← e] at g'
  exact (ix_get nd' g').symm
/-- the visit of the merged table from these states -/
def ord (m : List (Row L)) (b : List Nat) : List Nat := visit m (b.length + 2 * m.length) b []
def laid (m : List (Row L)) (o : List Nat) : List (Row L) := o.filterMap fun s => m[s]?.map (renum (ix o))
/-- the least form -/
def lf (rows : List (Row L)) (starts : List Nat) : List (Row L) × List Nat :=
  (laid (mg rows) (ord (mg rows) (starts.map (at_ (cls rows)))), (starts.map (at_ (cls rows))).map (ix (ord (mg rows) (starts.map (at_ (cls rows))))))
theorem ord_end {m : List (Row L)} {b : List Nat} (ok : TOk m) (hb : ∀ x ∈ b, x < m.length) : VEnd m b [] (ord m b) :=
  visit_end _ ⟨ok, hb, (fun x hx => by cases hx), List.nodup_nil⟩ (by unfold need; simp)
theorem ord_sim (oA : TOk A) (oB : TOk B) (sA : Apart A) (sB : Apart B) {b b' : List Nat} (h : F2 (RR A B) b b') : F2 (RR A B) (ord A b) (ord B b') := by
  have hA : ∀ x ∈ b, x < A.length := fun x hx => let ⟨_, _, q⟩ := h.left hx; q.1
  have hB : ∀ x ∈ b', x < B.length := fun x hx => let ⟨_, _, q⟩ := h.right hx; q.2.1
  have e1 := visit_fuel (f := b.length + 2 * A.length) (w := b) (s := []) ⟨oA, hA, (fun x hx => by cases hx), List.nodup_nil⟩ (by unfold need; simp) (2 * B.length)
  have e2 := visit_fuel (f := b'.length + 2 * B.length) (w := b') (s := []) ⟨oB, hB, (fun x hx => by cases hx), List.nodup_nil⟩ (by unfold need; simp) (2 * A.length)
  unfold ord
  rw [← e1, ← e2, h.len, show b'.length + 2 * B.length + 2 * A.length = b'.length + 2 * A.length + 2 * B.length by omega]
  exact visit_sim oA oB sA sB _ h .nil
theorem laid_get {m : List (Row L)} (f : Nat → Nat) : ∀ {o : List Nat}, (∀ x ∈ o, x < m.length) → ∀ i : Nat, (o.filterMap fun s => m[s]?.map (renum f))[i]? = o[i]?.bind fun s => m[s]?.map (renum f)
  | [], _, i => by simp
  | a :: o, h, i => by
    have ha := h a List.mem_cons_self
    have e : m[a]? = some m[a] := List.getElem?_eq_getElem ha
    rw [List.filterMap_cons]
    simp only [e, Option.map_some]
    cases i with
    | zero => simp [e]
    | succ i =>
      rw [List.getElem?_cons_succ, List.getElem?_cons_succ]
      exact laid_get f (fun x hx => h x (List.mem_cons_of_mem _ hx)) i
theorem laid_len {m : List (Row L)} (f : Nat → Nat) : ∀ {o : List Nat}, (∀ x ∈ o, x < m.length) → (o.filterMap fun s => m[s]?.map (renum f)).length = o.length
  | [], _ => rfl
  | a :: o, h => by
    have ha := h a List.mem_cons_self
    have e : m[a]? = some m[a] := List.getElem?_eq_getElem ha
    rw [List.filterMap_cons]
    simp only [e, Option.map_some, List.length_cons]
    rw [laid_len f fun x hx => h x (List.mem_cons_of_mem _ hx)]
theorem b_lt {rows : List (Row L)} {starts : List Nat} (hs : ∀ s ∈ starts, s < rows.length) : ∀ x ∈ starts.map (at_ (cls rows)), x < (mg rows).length := by
  intro x hx
  obtain ⟨s, h, rfl⟩ := List.mem_map.mp hx
  exact cls_lt (hs s h)
/-- two tables that go alike from their starts have the same least form -/
theorem lf_canon {starts starts' : List Nat} (oA : TOk A) (oB : TOk B) (hA : ∀ s ∈ starts, s < A.length) (hB : ∀ s ∈ starts', s < B.length) (h : F2 (fun a b => Alk A a B b) starts starts') : lf A starts = lf B starts' := by
  have hb : F2 (RR (mg A) (mg B)) (starts.map (at_ (cls A))) (starts'.map (at_ (cls B))) := by
    refine F2.of (by rw [List.length_map, List.length_map, h.len]) fun i a b h1 h2 => ?_
    rw [List.getElem?_map, Option.map_eq_some_iff] at h1 h2
    obtain ⟨s, hs, rfl⟩ := h1
    obtain ⟨s', hs', rfl⟩ := h2
    have q := h.get hs hs'
    have ls := hA s (List.mem_of_getElem? hs)
    have ls' := hB s' (List.mem_of_getElem? hs')
    exact ⟨cls_lt ls, cls_lt ls', fun w => by rw [mg_out oA w ls, mg_out oB w ls']; exact q w⟩
  have mA := mg_ok oA
  have mB := mg_ok oB
  have pA := mg_apart oA
  have pB := mg_apart oB
  have eA := ord_end mA (b_lt hA)
  have eB := ord_end mB (b_lt hB)
  have ho := ord_sim mA mB pA pB hb
  have cA := eA.closed fun x hx => by cases hx
  have cB := eB.closed fun x hx => by cases hx
  unfold lf
  generalize starts.map (at_ (cls A)) = bA at hb eA ho cA
  generalize starts'.map (at_ (cls B)) = bB at hb eB ho cB
  have e1 : laid (mg A) (ord (mg A) bA) = laid (mg B) (ord (mg B) bB) := by
    refine List.ext_getElem? fun i => ?_
    unfold laid
    rw [laid_get _ eA.lt, laid_get _ eB.lt]
    cases hi : (ord (mg A) bA)[i]? with
    | none =>
      have : (ord (mg B) bB)[i]? = none := by
        rw [List.getElem?_eq_none_iff] at hi ⊢
        rw [← ho.len]; exact hi
      rw [this]
      rfl
    | some a =>
      have hl : i < (ord (mg B) bB).length := by rw [← ho.len]; exact (List.getElem?_eq_some_iff.mp hi).1
      have hi' := List.getElem?_eq_getElem hl
      have r := ho.get hi hi'
      rw [hi']
      have ma := List.mem_of_getElem? hi
      have mb := List.mem_of_getElem? hi'
      generalize (ord (mg B) bB)[i] = b at hi' r mb
      have ra : (mg A)[a]? = some ((mg A)[a]'r.1) := List.getElem?_eq_getElem r.1
      have rb : (mg B)[b]? = some ((mg B)[b]'r.2.1) := List.getElem?_eq_getElem r.2.1
      obtain ⟨k, q1, q2⟩ := rr_step mA mB r ra rb
      have ca := cA a ma _ ra
      simp only [Option.bind_some, ra, rb, Option.map_some]
      unfold renum
      rw [ix_sim pA pB eA.nd eB.nd ho q1 ca.1, ix_sim pA pB eA.nd eB.nd ho q2 ca.2, (Prod.mk.inj k).1, (Prod.mk.inj k).2]
  have e2 : bA.map (ix (ord (mg A) bA)) = bB.map (ix (ord (mg B) bB)) := by
    refine List.ext_getElem? fun i => ?_
    rw [List.getElem?_map, List.getElem?_map]
    cases hi : bA[i]? with
    | none =>
      have : bB[i]? = none := by
        rw [List.getElem?_eq_none_iff] at hi ⊢
        rw [← hb.len]; exact hi
      rw [this]
      rfl
    | some a =>
      have hl : i < bB.length := by rw [← hb.len]; exact (List.getElem?_eq_some_iff.mp hi).1
      have hi' := List.getElem?_eq_getElem hl
      have r := hb.get hi hi'
      rw [hi']
      show some _ = some _
      rw [ix_sim pA pB eA.nd eB.nd ho r (eA.all a (List.mem_of_getElem? hi))]
  rw [e1, e2]
variable {rows : List (Row L)} {starts : List Nat}
theorem laid_ok (ok : TOk rows) (hs : ∀ s ∈ starts, s < rows.length) : TOk (lf rows starts).1 := by
  have mA := mg_ok ok
  have eA := ord_end mA (b_lt hs)
  have cA := eA.closed fun x hx => by cases hx
  show TOk (laid _ _)
  generalize starts.map (at_ (cls rows)) = bA at eA cA
  have hl : (laid (mg rows) (ord (mg rows) bA)).length = (ord (mg rows) bA).length := laid_len _ eA.lt
  intro r hr
  rw [hl]
  obtain ⟨i, hi⟩ := List.getElem?_of_mem hr
  unfold laid at hi
  rw [laid_get _ eA.lt] at hi
  cases ho : (ord (mg rows) bA)[i]? with
  | none => rw [ho] at hi; cases hi
  | some a =>
    have ma := List.mem_of_getElem? ho
    have ra : (mg rows)[a]? = some ((mg rows)[a]'(eA.lt a ma)) := List.getElem?_eq_getElem _
    rw [ho] at hi
    simp only [Option.bind_some, ra, Option.map_some] at hi
    have : r = renum (ix (ord (mg rows) bA)) ((mg rows)[a]'(eA.lt a ma)) := (Option.some.inj hi).symm
    rw [this]
    have c := cA a ma _ ra
    exact ⟨ix_lt c.1, ix_lt c.2⟩
theorem lf_st (ok : TOk rows) (hs : ∀ s ∈ starts, s < rows.length) : ∀ s ∈ (lf rows starts).2, s < (lf rows starts).1.length := by
  have mA := mg_ok ok
  have eA := ord_end mA (b_lt hs)
  intro s h
  obtain ⟨x, hx, rfl⟩ := List.mem_map.mp h
  show ix _ x < (laid _ _).length
  unfold laid
  rw [laid_len _ eA.lt]
  exact ix_lt (eA.all x hx)
theorem lf_len : (lf rows starts).2.length = starts.length := by
  show (List.map _ (List.map _ starts)).length = _
  rw [List.length_map, List.length_map]
theorem lf_le (ok : TOk rows) (hs : ∀ s ∈ starts, s < rows.length) : (lf rows starts).1.length ≤ rows.length := by
  have eA := ord_end (mg_ok ok) (b_lt hs)
  show (laid _ _).length ≤ _
  unfold laid
  rw [laid_len _ eA.lt]
  exact Nat.le_trans (few _ eA.nd eA.lt) mg_le
theorem laid_out {m : List (Row L)} {b : List Nat} (mA : TOk m) (hb : ∀ x ∈ b, x < m.length) : ∀ (w : List Bool) {x : Nat}, x ∈ ord m b → out (laid m (ord m b)) (ix (ord m b) x) w = out m x w
  | [], x, _ => by simp [out]
  | c :: w, x, hx => by
    have eA := ord_end mA hb
    have cA := eA.closed fun x hx => by cases hx
    have rx : m[x]? = some (m[x]'(eA.lt x hx)) := List.getElem?_eq_getElem _
    have cx := cA x hx _ rx
    have lx : (laid m (ord m b))[ix (ord m b) x]? = some (renum (ix (ord m b)) (m[x]'(eA.lt x hx))) := by
      unfold laid
      rw [laid_get _ eA.lt, get_ix hx]
      simp only [Option.bind_some, rx, Option.map_some]
    rw [out_cons lx, out_cons rx]
    cases c
    · simp only [Bool.false_eq_true, if_false]
      show some _ :: out _ (ix _ _) w = _
      rw [laid_out mA hb w cx.1]
      rfl
    · simp only [if_true]
      show some _ :: out _ (ix _ _) w = _
      rw [laid_out mA hb w cx.2]
      rfl
/-- the least form goes as the table -/
theorem lf_alk (ok : TOk rows) (hs : ∀ s ∈ starts, s < rows.length) : F2 (fun a b => Alk (lf rows starts).1 a rows b) (lf rows starts).2 starts := by
  have mA := mg_ok ok
  have eA := ord_end mA (b_lt hs)
  refine F2.of lf_len fun i a b h1 h2 w => ?_
  have hb := hs b (List.mem_of_getElem? h2)
  have h1' : (lf rows starts).2[i]? = some (ix (ord (mg rows) (starts.map (at_ (cls rows)))) (at_ (cls rows) b)) := by
    show (List.map _ (List.map _ starts))[i]? = _
    rw [List.getElem?_map, List.getElem?_map, h2]
    rfl
  rw [h1] at h1'
  rw [Option.some.inj h1']
  show out (laid _ _) _ w = _
  rw [laid_out mA (b_lt hs) w (eA.all _ (List.mem_map_of_mem (List.mem_of_getElem? h2))), mg_out ok w hb]
/-- alike exactly if the least forms are the same -/
theorem lf_iff {starts' : List Nat} (oA : TOk A) (oB : TOk B) (hA : ∀ s ∈ starts, s < A.length) (hB : ∀ s ∈ starts', s < B.length) : lf A starts = lf B starts' ↔ F2 (fun a b => Alk A a B b) starts starts' := by
  refine ⟨fun e => ?_, lf_canon oA oB hA hB⟩
  have h1 := lf_alk oA hA
  have h2 := lf_alk oB hB
  rw [← e] at h2
  refine F2.of (h1.len.symm.trans h2.len) fun i a b ha hb w => ?_
  have hl : i < (lf A starts).2.length := by rw [lf_len]; exact (List.getElem?_eq_some_iff.mp ha).1
  have hx := List.getElem?_eq_getElem hl
  exact (h1.get hx ha w).symm.trans (h2.get hx hb w)
/-- the least form of a least form is that form -/
theorem lf_lf (ok : TOk rows) (hs : ∀ s ∈ starts, s < rows.length) : lf (lf rows starts).1 (lf rows starts).2 = lf rows starts :=
  lf_canon (laid_ok ok hs) ok (lf_st ok hs) hs (lf_alk ok hs)
end
end LF

/-! row sets read together: what joined and the law's own walk find -/
namespace JM
abbrev Ln := Option Nat × Option Nat
variable {A B : List Ln} {Pl : List Ln} {d : Nat}
def sd (l : Ln) (c : Bool) : Option Nat := if c = true then l.2 else l.1
def en (A : List Ln) (i : Nat) (c : Bool) : Option Nat := (A[i]?).bind fun l => sd l c
structure LineOk (A : List Ln) : Prop where
  one : 0 < A.length
  ok : ∀ l ∈ A, ∀ c a, sd l c = some a → a < A.length
theorem en_lt (h : LineOk A) {i a : Nat} {c : Bool} (e : en A i c = some a) : a < A.length := by
  unfold en at e
  cases hl : A[i]? with
  | none => rw [hl] at e; cases e
  | some l =>
    rw [hl] at e
    exact h.ok l (List.mem_of_getElem? hl) c a e
theorem en_at {i : Nat} {c : Bool} {l : Ln} (h : A[i]? = some l) : en A i c = sd l c := by
  unfold en
  rw [h]
  rfl
/-- what follows a pair: of the two sides together (both), or while one of them goes on -/
def fol (e : Bool) (A B : List Ln) (p : Ln) (c : Bool) : Option Ln :=
  let one := p.1.bind fun i => en A i c
  let two := p.2.bind fun j => en B j c
  if (if e = true then one.isNone && two.isNone else one.isNone || two.isNone) = true then none else some (one, two)
inductive Rc (A B : List Ln) : Nat → Nat → Prop
  | z : Rc A B 0 0
  | s {i j i' j' : Nat} (c : Bool) : Rc A B i j → en A i c = some i' → en B j c = some j' → Rc A B i' j'
/-- whatever the first reads to its end the second does -/
def Wi (A B : List Ln) : Prop := ∀ i j c, Rc A B i j → en A i c ≠ none → en B j c ≠ none
def Snd (A B : List Ln) (p : Ln) : Prop := (∃ i j, p = (some i, some j) ∧ Rc A B i j) ∨ (∃ j, p = (none, some j)) ∨ (∃ i, p = (some i, none) ∧ ¬ Wi A B)
def Bd (A B : List Ln) (p : Ln) : Prop := (∀ a, p.1 = some a → a < A.length) ∧ ∀ b, p.2 = some b → b < B.length
structure JB (A B : List Ln) (Pl : List Ln) : Prop where
  nd : Pl.Nodup
  z : (some 0, some 0) ∈ Pl
  snd : ∀ p ∈ Pl, Snd A B p
  bd : ∀ p ∈ Pl, Bd A B p
theorem JB.init (hA : LineOk A) (hB : LineOk B) : JB A B [(some 0, some 0)] := by
  refine ⟨by simp, by simp, fun p hp => ?_, fun p hp => ?_⟩
  · rw [List.mem_singleton.mp hp]
    exact .inl ⟨0, 0, rfl, .z⟩
  · rw [List.mem_singleton.mp hp]
    exact ⟨fun a h => by cases h; exact hA.one, fun b h => by cases h; exact hB.one⟩
theorem fol_some {e : Bool} {p q : Ln} {c : Bool} (h : fol e A B p c = some q) : q = (p.1.bind fun i => en A i c, p.2.bind fun j => en B j c) ∧ ¬ (if e = true then (p.1.bind fun i => en A i c).isNone && (p.2.bind fun j => en B j c).isNone else (p.1.bind fun i => en A i c).isNone || (p.2.bind fun j => en B j c).isNone) = true := by
  unfold fol at h
  dsimp only at h
  by_cases hc : (if e = true then (p.1.bind fun i => en A i c).isNone && (p.2.bind fun j => en B j c).isNone else (p.1.bind fun i => en A i c).isNone || (p.2.bind fun j => en B j c).isNone) = true
  · rw [if_pos hc] at h
    cases h
  · rw [if_neg hc] at h
    exact ⟨(Option.some.inj h).symm, hc⟩
theorem fol_bd (hA : LineOk A) (hB : LineOk B) {e : Bool} {p q : Ln} {c : Bool} (h : fol e A B p c = some q) : Bd A B q := by
  obtain ⟨rfl, _⟩ := fol_some h
  refine ⟨fun a h => ?_, fun b h => ?_⟩
  · obtain ⟨i, _, hi⟩ := Option.bind_eq_some_iff.mp h
    exact en_lt hA hi
  · obtain ⟨i, _, hi⟩ := Option.bind_eq_some_iff.mp h
    exact en_lt hB hi
theorem fol_snd {p q : Ln} {c : Bool} (hp : Snd A B p) (h : fol true A B p c = some q) : Snd A B q := by
  obtain ⟨rfl, hne⟩ := fol_some h
  rcases hp with ⟨i, j, rfl, r⟩ | ⟨j, rfl⟩ | ⟨i, rfl, nw⟩
  · cases h1 : en A i c with
    | none =>
      cases h2 : en B j c with
      | none => exact absurd (by simp [h1, h2]) hne
      | some j' => exact .inr (.inl ⟨j', by simp [h1, h2]⟩)
    | some i' =>
      cases h2 : en B j c with
      | none => exact .inr (.inr ⟨i', by simp [h1, h2], fun w => w i j c r (by rw [h1]; simp) h2⟩)
      | some j' => exact .inl ⟨i', j', by simp [h1, h2], .s c r h1 h2⟩
  · cases h2 : en B j c with
    | none => exact absurd (by simp [h2]) hne
    | some j' => exact .inr (.inl ⟨j', by simp [h2]⟩)
  · cases h1 : en A i c with
    | none => exact absurd (by simp [h1]) hne
    | some i' => exact .inr (.inr ⟨i', by simp [h1], nw⟩)
theorem JB.add (b : JB A B Pl) (hA : LineOk A) (hB : LineOk B) {p q : Ln} {c : Bool} (hp : p ∈ Pl) (h : fol true A B p c = some q) (hq : q ∉ Pl) : JB A B (Pl ++ [q]) := by
  refine ⟨LF.nodup_snoc b.nd hq, List.mem_append.mpr (.inl b.z), fun r hr => ?_, fun r hr => ?_⟩
  · rcases List.mem_append.mp hr with hr | hr
    · exact b.snd r hr
    · rw [List.mem_singleton.mp hr]
      exact fol_snd (b.snd p hp) h
  · rcases List.mem_append.mp hr with hr | hr
    · exact b.bd r hr
    · rw [List.mem_singleton.mp hr]
      exact fol_bd hA hB h
/-- a pair as a number -/
def oc (o : Option Nat) : Nat := match o with | none => 0 | some a => a + 1
def pc (n : Nat) (p : Ln) : Nat := oc p.1 * (n + 1) + oc p.2
theorem oc_inj {o o' : Option Nat} (h : oc o = oc o') : o = o' := by
  cases o <;> cases o' <;> simp [oc] at h ⊢
  exact h
theorem oc_le {o : Option Nat} {n : Nat} (h : ∀ a, o = some a → a < n) : oc o ≤ n := by
  cases o with
  | none => exact Nat.zero_le _
  | some a => exact h a rfl
theorem JB.few (b : JB A B Pl) : Pl.length ≤ (A.length + 1) * (B.length + 1) := by
  have h1 : (Pl.map (pc B.length)).Nodup := by
    rw [List.Nodup, List.pairwise_map]
    refine List.Pairwise.imp_of_mem ?_ b.nd
    intro p q hp hq ne e
    refine ne ?_
    have b1 := oc_le (b.bd p hp).2
    have b2 := oc_le (b.bd q hq).2
    unfold pc at e
    have m1 : (oc p.1 * (B.length + 1) + oc p.2) % (B.length + 1) = oc p.2 := by
      rw [Nat.mul_comm, Nat.mul_add_mod, Nat.mod_eq_of_lt (by omega)]
    have m2 : (oc q.1 * (B.length + 1) + oc q.2) % (B.length + 1) = oc q.2 := by
      rw [Nat.mul_comm, Nat.mul_add_mod, Nat.mod_eq_of_lt (by omega)]
    have d1 : (oc p.1 * (B.length + 1) + oc p.2) / (B.length + 1) = oc p.1 := by
      rw [Nat.mul_comm, Nat.mul_add_div (by omega), Nat.div_eq_of_lt (by omega), Nat.add_zero]
    have d2 : (oc q.1 * (B.length + 1) + oc q.2) / (B.length + 1) = oc q.1 := by
      rw [Nat.mul_comm, Nat.mul_add_div (by omega), Nat.div_eq_of_lt (by omega), Nat.add_zero]
    have e1 : oc p.1 = oc q.1 := by rw [← d1, e, d2]
    have e2 : oc p.2 = oc q.2 := by rw [← m1, e, m2]
    exact Prod.ext (oc_inj e1) (oc_inj e2)
  have h2 := LF.few ((A.length + 1) * (B.length + 1)) h1 fun x hx => by
    obtain ⟨p, hp, rfl⟩ := List.mem_map.mp hx
    have b1 := oc_le (b.bd p hp).1
    have b2 := oc_le (b.bd p hp).2
    unfold pc
    have := Nat.mul_le_mul_right (B.length + 1) b1
    rw [Nat.succ_mul]
    omega
  rwa [List.length_map] at h2
/-- the first d pairs have been followed -/
def Cl (A B : List Ln) (Pl : List Ln) (d : Nat) : Prop := ∀ k p c q, k < d → Pl[k]? = some p → fol true A B p c = some q → q ∈ Pl
theorem Cl.more (h : Cl A B Pl d) (X : List Ln) (hd : d ≤ Pl.length) : Cl A B (Pl ++ X) d := fun k p c q hk hp e => by
  rw [List.getElem?_append_left (by omega)] at hp
  exact List.mem_append.mpr (.inl (h k p c q hk hp e))
/-- at the end -/
theorem end_iff (b : JB A B Pl) (h : Cl A B Pl Pl.length) : (∀ p ∈ Pl, p.2 ≠ none) ↔ Wi A B := by
  have step : ∀ p ∈ Pl, ∀ c q, fol true A B p c = some q → q ∈ Pl := fun p hp c q e => by
    obtain ⟨k, hk, rfl⟩ := List.getElem_of_mem hp
    exact h k _ c q hk (List.getElem?_eq_getElem hk) e
  have all : ∀ {i j}, Rc A B i j → (some i, some j) ∈ Pl := by
    intro i j r
    induction r with
    | z => exact b.z
    | s c r h1 h2 ih => exact step _ ih c _ (by simp [fol, h1, h2])
  refine ⟨fun hn i j c r h1 h2 => ?_, fun w p hp => ?_⟩
  · cases h3 : en A i c with
    | none => exact h1 h3
    | some i' => exact hn (some i', none) (step _ (all r) c _ (by simp [fol, h3, h2])) rfl
  · rcases b.snd p hp with ⟨i, j, rfl, r⟩ | ⟨j, rfl⟩ | ⟨i, rfl, nw⟩
    · intro z; cases z
    · intro z; cases z
    · exact absurd w nw
/-! ### the law's own walk: pairs of two states -/
structure WB (A B : List Ln) (Wl : List (Nat × Nat)) (Sn : List (Nat × Nat)) : Prop where
  z : (0, 0) ∈ Wl
  rc : ∀ p ∈ Wl, Rc A B p.1 p.2
  sn : ∀ p ∈ Sn, p ∈ Wl
  nd : Sn.Nodup
  len : Wl.length = 1 + Sn.length
theorem WB.init : WB A B [(0, 0)] [] := ⟨by simp, fun p hp => by rw [List.mem_singleton.mp hp]; exact .z, fun p hp => (List.not_mem_nil hp).elim, List.nodup_nil, rfl⟩
theorem WB.add {Wl Sn : List (Nat × Nat)} (b : WB A B Wl Sn) {p : Nat × Nat} {c : Bool} {i j : Nat} (hp : p ∈ Wl) (h1 : en A p.1 c = some i) (h2 : en B p.2 c = some j) (hn : (i, j) ∉ Sn) : WB A B (Wl ++ [(i, j)]) (Sn ++ [(i, j)]) := by
  refine ⟨List.mem_append.mpr (.inl b.z), fun q hq => ?_, fun q hq => ?_, LF.nodup_snoc b.nd hn, by rw [List.length_append, List.length_append, b.len]; simp; omega⟩
  · rcases List.mem_append.mp hq with hq | hq
    · exact b.rc q hq
    · rw [List.mem_singleton.mp hq]
      exact .s c (b.rc p hp) h1 h2
  · rcases List.mem_append.mp hq with hq | hq
    · exact List.mem_append.mpr (.inl (b.sn q hq))
    · exact List.mem_append.mpr (.inr hq)
theorem rc_bd (hA : LineOk A) (hB : LineOk B) {i j : Nat} (r : Rc A B i j) : i < A.length ∧ j < B.length := by
  cases r with
  | z => exact ⟨hA.one, hB.one⟩
  | s c r h1 h2 => exact ⟨en_lt hA h1, en_lt hB h2⟩
theorem WB.few {Wl Sn : List (Nat × Nat)} (b : WB A B Wl Sn) (hA : LineOk A) (hB : LineOk B) : Sn.length ≤ A.length * B.length := by
  have h1 : (Sn.map fun p => p.1 * B.length + p.2).Nodup := by
    rw [List.Nodup, List.pairwise_map]
    refine List.Pairwise.imp_of_mem ?_ b.nd
    intro p q hp hq ne e
    refine ne ?_
    obtain ⟨_, b1⟩ := rc_bd hA hB (b.rc p (b.sn p hp))
    obtain ⟨_, b2⟩ := rc_bd hA hB (b.rc q (b.sn q hq))
    have hp0 : 0 < B.length := hB.one
    have m1 : (p.1 * B.length + p.2) % B.length = p.2 := by rw [Nat.mul_comm, Nat.mul_add_mod, Nat.mod_eq_of_lt b1]
    have m2 : (q.1 * B.length + q.2) % B.length = q.2 := by rw [Nat.mul_comm, Nat.mul_add_mod, Nat.mod_eq_of_lt b2]
    have d1 : (p.1 * B.length + p.2) / B.length = p.1 := by rw [Nat.mul_comm, Nat.mul_add_div hp0, Nat.div_eq_of_lt b1, Nat.add_zero]
    have d2 : (q.1 * B.length + q.2) / B.length = q.1 := by rw [Nat.mul_comm, Nat.mul_add_div hp0, Nat.div_eq_of_lt b2, Nat.add_zero]
    exact Prod.ext (by rw [← d1, e, d2]) (by rw [← m1, e, m2])
  have h2 := LF.few (A.length * B.length) h1 fun x hx => by
    obtain ⟨p, hp, rfl⟩ := List.mem_map.mp hx
    obtain ⟨b1, b2⟩ := rc_bd hA hB (b.rc p (b.sn p hp))
    have := Nat.mul_le_mul_right B.length b1
    rw [Nat.succ_mul] at this
    omega
  rwa [List.length_map] at h2
/-- the first d of them have been followed, and nothing stopped there -/
def WC (A B : List Ln) (Wl Sn : List (Nat × Nat)) (d : Nat) : Prop := ∀ k p c i, k < d → Wl[k]? = some p → en A p.1 c = some i → ∃ j, en B p.2 c = some j ∧ (i, j) ∈ Sn
theorem wend (b : WB A B Wl Sn) (h : WC A B Wl Sn Wl.length) : Wi A B := by
  have step : ∀ p ∈ Wl, ∀ c i, en A p.1 c = some i → ∃ j, en B p.2 c = some j ∧ (i, j) ∈ Wl := fun p hp c i e => by
    obtain ⟨k, hk, rfl⟩ := List.getElem_of_mem hp
    obtain ⟨j, h1, h2⟩ := h k _ c i hk (List.getElem?_eq_getElem hk) e
    exact ⟨j, h1, b.sn _ h2⟩
  have all : ∀ {i j}, Rc A B i j → (i, j) ∈ Wl := by
    intro i j r
    induction r with
    | z => exact b.z
    | s c r h1 h2 ih =>
      obtain ⟨j, e, hj⟩ := step _ ih c _ h1
      have : en B _ c = some j := e
      rw [h2] at this
      cases this
      exact hj
  intro i j c r h1 h2
  cases h3 : en A i c with
  | none => exact h1 h3
  | some i' =>
    obtain ⟨j', e, _⟩ := step _ (all r) c i' h3
    have e : en B j c = some j' := e
    rw [h2] at e
    cases e
end JM

set_option maxHeartbeats 4000000
/-! zip and enumerate over lists and tuples in any mix -/
namespace L2
open PySem PySem.Spec PyProof.Rows RZ
def IterK (k : Kind) (h : Heap) (it a : Addr) (i : Nat) : Prop := match k with
  | .l => h.IsListIter it a i
  | .t => h.IsTupleIter it a i
def SeqK (k : Kind) (h : Heap) (a : Addr) (its : Array Value) : Prop := match k with
  | .l => h.IsList a its
  | .t => h.IsTuple a its
def begO (k : Kind) (a : Addr) : Obj := match k with
  | .l => { cls := .type "list_iterator", data := .fields #[.ref a, .int 0 0] }
  | .t => { cls := .type "tuple_iterator", data := .fields #[.ref a, .int 0 0] }
theorem begins_k (k : Kind) (a : Addr) (its : Array Value) : Begins (.ref a) (begO k a) fun h => SeqK k h a its := by
  cases k
  · exact begins_list a its
  · exact begins_tuple a its
theorem iter_0 {k : Kind} {h : Heap} {it a : Addr} (e : h.get? it = some (begO k a)) : IterK k h it a 0 := by
  cases k
  · exact ⟨_, e, rfl, rfl⟩
  · exact ⟨_, e, rfl, rfl⟩
theorem iterK_at {k : Kind} {h h' : Heap} {it a : Addr} {i : Nat} (x : IterK k h it a i) (e : ∀ o, h.get? it = some o → h'.get? it = some o) : IterK k h' it a i := by
  cases k
  · exact x.at e
  · exact x.at e
theorem iterK_obj {k : Kind} {h : Heap} {it a : Addr} {i : Nat} (x : IterK k h it a i) : ∃ o, h.get? it = some o ∧ ∀ v, o.data ≠ .cell v := by
  cases k
  · obtain ⟨o, e, _, d⟩ := x
    exact ⟨o, e, fun v z => by rw [d] at z; cases z⟩
  · obtain ⟨o, e, _, d⟩ := x
    exact ⟨o, e, fun v z => by rw [d] at z; cases z⟩
theorem seqK_lt {k : Kind} {h : Heap} {a : Addr} {its : Array Value} (x : SeqK k h a its) : a < h.objs.size := by
  cases k
  · obtain ⟨o, e, _⟩ := x; exact Heap.lt_size e
  · obtain ⟨o, e, _⟩ := x; exact Heap.lt_size e
theorem draws_k {P : Program} {w : World} {A : Around} (k : Kind) (hh : A.handled = none) (it a : Addr) (hne : a ≠ it) (its : Array Value) :
    Draws P w A it [it, a] its.size (fun i v => its[i]? = some v) (fun i h => IterK k h it a i ∧ SeqK k h a its) := by
  cases k
  · exact Draws.list hh it a hne its
  · exact Draws.tuple hh it a hne its
theorem seq_k {X : Cx} {pins : List (Addr × Obj)} {σ : L2.St} {H : Hp} {s : Shared} {k : Kind} {a : Addr} {xs : List V} (I : Inv X pins σ H s) (h : Sk X.K k H a xs) : ∃ its : List Value, Vals xs its ∧ SeqK k s.heap a its.toArray := by
  cases k
  · obtain ⟨its, r, p, _⟩ := I.list h
    exact ⟨its, r, p.isList⟩
  · obtain ⟨its, r, p, _⟩ := I.tuple h
    exact ⟨its, r, p⟩
theorem sk_inj {X : Cx} {pins : List (Addr × Obj)} {σ : L2.St} {H : Hp} {s : Shared} {k : Kind} {a : Addr} {xs ys : List V} (I : Inv X pins σ H s) (h : Sk X.K k H a xs) (h' : Sk X.K k H a ys) : xs = ys := by
  cases k
  · exact I.list_inj h h'
  · exact I.tuple_inj h h'
/-! ### zip -/
def ItM (K : PySem.W.Frag) (k1 k2 : Kind) (a b : Addr) : It :=
  ⟨fun i H => ∃ (xs ys : List V), Sk K k1 H a xs ∧ Sk K k2 H b ys ∧ i < xs.length ∧ i < ys.length,
    fun i H v H' => ∃ T x y, v = .ref T ∧ H T = none ∧ H' = upd H T (.tup [x, y]) ∧ (∀ xs, Sk K k1 H a xs → xs[i]? = some x) ∧ ∀ ys, Sk K k2 H b ys → ys[i]? = some y,
    fun i H => ∃ (xs ys : List V), Sk K k1 H a xs ∧ Sk K k2 H b ys ∧ i ≤ xs.length ∧ i ≤ ys.length ∧ (i = xs.length ∨ i = ys.length)⟩
theorem walk_m {K : PySem.W.Frag} {k1 k2 : Kind} {a b : Addr} {xs ys : List V} {n : Nat} (hn : n = min xs.length ys.length) : Walk (ItM K k1 k2 a b) n (fun H => Sk K k1 H a xs ∧ Sk K k2 H b ys) (YPair (fun i => xs[i]?) (fun i => ys[i]?)) :=
  ⟨fun i H hi q => ⟨xs, ys, q.1, q.2, by omega, by omega⟩, fun H q => ⟨xs, ys, q.1, q.2, by omega, by omega, by omega⟩, fun i H v H' hi q y => by
    obtain ⟨T, x, z, rfl, hT, rfl, f1, f2⟩ := y
    exact ⟨T, x, z, rfl, hT, rfl, f1 xs q.1, f2 ys q.2⟩⟩
theorem turn_m {P : Program} {w : World} {K : PySem.W.Frag} {k1 k2 : Kind} {elts : List Expr} {kk : Nat} {tpos : Pos} {a b z TI TO i1 i2 : Addr} (S : ZipSep2 z TI TO i1 i2 [i1, a] [i2, b]) (na : a ≠ i1) (nb : b ≠ i2) :
    Turn P w K (.Tuple elts kk tpos) (ItM K k1 k2 a b) [z, TI, TO, i1, i2] z (fun i h => IsZip h z TI TO .none ∧ IsTupOf2 h TI (.ref i1) (.ref i2) ∧ (∃ x y, IsTupOf2 h TO x y) ∧ IterK k1 h i1 a i ∧ IterK k2 h i2 b i) where
  mem := List.mem_cons_self
  obj := fun i h st c hc => by
    obtain ⟨g1, g2, ⟨x, y, g3⟩, g4, g5⟩ := st
    simp only [List.mem_cons, List.not_mem_nil, or_false] at hc
    rcases hc with rfl | rfl | rfl | rfl | rfl
    · exact ⟨_, g1, fun v e => by cases e⟩
    · exact ⟨_, g2, fun v e => by cases e⟩
    · exact ⟨_, g3, fun v e => by cases e⟩
    · exact iterK_obj g4
    · exact iterK_obj g5
  keep := fun i h h' st kp => by
    obtain ⟨g1, g2, ⟨x, y, g3⟩, g4, g5⟩ := st
    exact ⟨kp z (by simp) _ g1, kp TI (by simp) _ g2, ⟨x, y, kp TO (by simp) _ g3⟩, iterK_at g4 fun o e => kp i1 (by simp) o e, iterK_at g5 fun o e => kp i2 (by simp) o e⟩
  item := by
    intro X eP ew eK calm i pins s σ H E I own st go
    subst eP ew eK
    obtain ⟨g1, g2, ⟨x0, y0, g3⟩, g4, g5⟩ := st
    obtain ⟨xs, ys, qx, qy, lx, ly⟩ := go
    obtain ⟨us, ru, pu⟩ := seq_k I qx
    obtain ⟨vs, rv, pv⟩ := seq_k I qy
    have hu := ru.length
    have hv := rv.length
    have zlt : z < s.heap.objs.size := Heap.lt_size g1
    have D1 := draws_k (P := X.prog) (w := X.w) (A := X.A.in1) k1 (I.ok.hd calm) i1 a na us.toArray
    have D2 := draws_k (P := X.prog) (w := X.w) (A := X.A.in1) k2 (I.ok.hd calm) i2 b nb vs.toArray
    refine wpAny_pyNext_zipD2_item S D1 D2 g1 g2 g3 ⟨g4, pu⟩ ⟨g5, pv⟩ (by simp; omega) (by simp; omega) fun x1 x2 h' tk px py z' t' s1 s2 nt hsz kp => ?_
    obtain ⟨v1, e1, r1⟩ : ∃ v1, xs[i]? = some v1 ∧ RelV v1 x1 := by
      have ex : xs[i]? = some xs[i] := List.getElem?_eq_getElem lx
      obtain ⟨u, hu', ru'⟩ := ru.get ex
      have : u = x1 := by
        have px' : us[i]? = some x1 := by simpa using px
        rw [hu'] at px'
        exact Option.some.inj px'
      exact ⟨_, ex, this ▸ ru'⟩
    obtain ⟨v2, e2, r2⟩ : ∃ v2, ys[i]? = some v2 ∧ RelV v2 x2 := by
      have ey : ys[i]? = some ys[i] := List.getElem?_eq_getElem ly
      obtain ⟨u, hu', ru'⟩ := rv.get ey
      have : u = x2 := by
        have py' : vs[i]? = some x2 := by simpa using py
        rw [hu'] at py'
        exact Option.some.inj py'
      exact ⟨_, ey, this ▸ ru'⟩
    refine ⟨_, rfl, wpAny_letOwnedTupleGo_zip (s := { s with heap := h', toks := tk }) z' fun g z'' sb => ?_⟩
    have nt2 : g.get? s.heap.objs.size = some { cls := .type "tuple", data := .seq #[x1, x2] } := (sb.2 _ (Nat.ne_of_gt zlt)).trans nt
    have ob : ObjOk X.prog X.w (upd H s.heap.objs.size (.tup [v1, v2])) g s.heap.objs.size (.tup [v1, v2]) :=
      ⟨by show 2 ≤ sizeLine; decide, [x1, x2], .cons r1 (.cons r2 .nil), _, nt2, rfl, _, rfl⟩
    have all : ∀ c o, ¬ c ∈ [z, TI, TO, i1, i2] → s.heap.get? c = some o → g.get? c = some o := fun c o hn e => by
      simp only [List.mem_cons, List.not_mem_nil, or_false, not_or] at hn
      exact (sb.2 c hn.1).trans (kp c o hn.1 hn.2.2.1 hn.2.2.2.1 hn.2.2.2.2 e)
    have J := I.turnedNew (t' := tk) (ch := [z, TI, TO, i1, i2]) all own (Nat.le_refl _) ob
    have sz1 := S.zf1
    have sz2 := S.zf2
    simp only [List.mem_cons, List.not_mem_nil, or_false, not_or] at sz1 sz2
    refine ⟨.ref s.heap.objs.size, _, J, rfl, ⟨_, v1, v2, rfl, I.hok.fresh (Nat.le_refl _), rfl, fun l hl => by rw [sk_inj I hl qx]; exact e1, fun l hl => by rw [sk_inj I hl qy]; exact e2⟩, ⟨z'', ?_, ⟨x1, x2, ?_⟩, ?_, ?_⟩, fun c hc => ?_⟩
    · have := (sb.2 TI S.TIz).trans (kp TI _ S.TIz S.TITO S.TIi1 S.TIi2 g2)
      exact this
    · exact (sb.2 TO S.TOz).trans t'
    · exact iterK_at s1.1 fun o e => (sb.2 i1 (fun q => sz1.1 q.symm)).trans e
    · exact iterK_at s2.1 fun o e => (sb.2 i2 (fun q => sz2.1 q.symm)).trans e
    · have clt : c < s.heap.objs.size := by
        simp only [List.mem_cons, List.not_mem_nil, or_false] at hc
        rcases hc with rfl | rfl | rfl | rfl | rfl
        · exact zlt
        · exact Heap.lt_size g2
        · exact Heap.lt_size g3
        · obtain ⟨_, e, _⟩ := iterK_obj g4; exact Heap.lt_size e
        · obtain ⟨_, e, _⟩ := iterK_obj g5; exact Heap.lt_size e
      rw [upd_ne (Nat.ne_of_lt clt)]
      exact (own c hc).1
  done := by
    intro X eP ew eK calm i pins s σ H E I own st go
    subst eP ew eK
    obtain ⟨g1, g2, ⟨x0, y0, g3⟩, g4, g5⟩ := st
    obtain ⟨xs, ys, qx, qy, lx, ly, le⟩ := go
    obtain ⟨us, ru, pu⟩ := seq_k I qx
    obtain ⟨vs, rv, pv⟩ := seq_k I qy
    have hu := ru.length
    have hv := rv.length
    have D1 := draws_k (P := X.prog) (w := X.w) (A := X.A.in1) k1 (I.ok.hd calm) i1 a na us.toArray
    have D2 := draws_k (P := X.prog) (w := X.w) (A := X.A.in1) k2 (I.ok.hd calm) i2 b nb vs.toArray
    refine wpAny_pyNext_zipD2_end S D1 D2 g1 g2 g3 ⟨g4, pu⟩ ⟨g5, pv⟩ (by simp; omega) (by simp; omega) (by simp; omega) fun h' tk kp => ⟨rfl, ?_⟩
    refine I.turnedL (t' := tk) (ch := [z, TI, TO, i1, i2]) (fun c o hn e => ?_) own
    simp only [List.mem_cons, List.not_mem_nil, or_false, not_or] at hn
    exact kp c o hn.1 hn.2.2.1 hn.2.2.2.1 hn.2.2.2.2 e
  self := fun A i s Q E st h => wpAny_pyIter_zip st.1 h
/-- zip of a list or a tuple with a list or a tuple -/
def iZipM (K : PySem.W.Frag) (ta : TA) : TI := fun σ H R => ta σ H fun vs H1 => ∃ k1 k2 a b xs ys, vs = [.ref a, .ref b] ∧ Sk K k1 H1 a xs ∧ Sk K k2 H1 b ys ∧ R (ItM K k1 k2 a b) H1
theorem pi_zipM {X : Cx} {e e2 : Expr} {ta : TA} {p pos tpos : Pos} {elts : List Expr} {kk : Nat} (hg : Gl X "zip") (hm : X.mg "zip" = none) (ha : PA X [e, e2] ta)
    (hs : starEach [e, e2] X.env = (false, eval e X.env) :: starEach [e2] X.env := by rfl) (hpl : (backTo pos (starEach [e2] X.env)).any (·.1) = false := by rfl) :
    PI X (.Tuple elts kk tpos) (.Call (.Name "zip" p) [e, e2] [] pos) (iZipM X.K ta) := by
  refine ⟨fun pins s σ H R I h => Call_ (ld_blt I hg hm PyProof.Rows.boot_zip (PyProof.Rows.callWith_type1 (thn (ha.run pos pins s σ H _ I h) fun us t q => ?_) hs hpl))⟩
  obtain ⟨vs, G, J, r1, k1, k2, a, b, xs, ys, ev, qx, qy, q⟩ := q
  subst ev
  cases r1 with
  | cons ra rr =>
    cases rr with
    | cons rb rr =>
      cases rr
      cases ra
      cases rb
      obtain ⟨us, ru, pu⟩ := seq_k J qx
      obtain ⟨ws, rw_, pw⟩ := seq_k J qy
      have la := seqK_lt pu
      have lb := seqK_lt pw
      generalize hN : t.heap.objs.size = N at la lb
      refine zip_begins2 (begins_k k1 a us.toArray) (begins_k k2 b ws.toArray) pu pw fun h' g1 g2 g3 g4 g5 hsz kp => wpAny_pyIter_zip g1 ?_
      rw [hN] at g1 g2 g3 g4 g5
      rw [hN]
      have J2 : Inv X pins σ G { t with heap := h' } := J.kept (t' := t.toks) kp
      have S : ZipSep2 (N + 4) (N + 2) (N + 3) N (N + 1) [N, a] [N + 1, b] :=
        zip_sep2 (fp1 := [a]) (fp2 := [b]) (fun c hc => by rw [List.mem_singleton.mp hc]; exact la) (fun c hc => by rw [List.mem_singleton.mp hc]; exact lb)
      refine ⟨N + 4, [N + 4, N + 2, N + 3, N, N + 1], _, _, G, rfl, J2, turn_m (k1 := k1) (k2 := k2) S (Nat.ne_of_lt la) (Nat.ne_of_lt (Nat.lt_succ_of_lt lb)), ⟨g1, g2, ⟨_, _, g3⟩, iter_0 g4, iter_0 g5⟩, fun c hc => ?_, q⟩
      have le : t.heap.objs.size ≤ c := by
        rw [hN]
        simp only [List.mem_cons, List.not_mem_nil, or_false] at hc
        rcases hc with h1 | h1 | h1 | h1 | h1 <;> rw [h1]
        · exact Nat.le_add_right N 4
        · exact Nat.le_add_right N 2
        · exact Nat.le_add_right N 3
        · exact Nat.le_refl N
        · exact Nat.le_add_right N 1
      exact J.fpOk le (J.hok.fresh le)
end L2

set_option maxHeartbeats 4000000
namespace L2
open PySem PySem.Spec PyProof.Rows RZ
section
variable {X : Cx}
theorem call_len_dx : CallR X (.builtin "len") (fun xs H Q => ∃ d kvs, xs = [.ref d] ∧ H d = some (DX X.prog X.w d kvs) ∧ (∀ p ∈ kvs, KeyAt H p.2.1 p.1) ∧ Q (.int (kvs.length : Int)) H) := by
  intro pins s σ H xs us Q I r h
  obtain ⟨d, kvs, rfl, e, ka, q⟩ := h
  obtain ⟨u, rfl, ru⟩ := vals1 r
  cases ru
  obtain ⟨z, hd, xs, rel, dd⟩ := dx_of I.hok e ka
  have hl := Paired.length rel
  have hb : sizeLine < 2 ^ 63 := by decide
  refine PySem.call_len_dictH hd dd (by omega) ?_
  rw [← hl]
  exact ⟨.int _, H, I.tok _, ⟨_, rfl⟩, q⟩
end
end L2

set_option maxHeartbeats 4000000
namespace L2
open PySem PySem.Spec PyProof.Rows RZ
theorem newClass_enum (v : Value) : Builtin.SmallTypes.newClass "enumerate" { pos := [.type "enumerate", v] } = pure (.type "enumerate", [v]) := by
  unfold Builtin.SmallTypes.newClass
  show (isType (.type "enumerate") >>= _) = _
  simp [isType, sub_enumerate]
theorem meets_enum1 {v : Value} {o : Obj} {H : Heap → Prop} (b : Begins v o H) :
    Meets (Builtin.«enumerate.__new__» { pos := [.type "enumerate", v] }) fun A R s => H s.heap ∧ R (.ok (.ret (.ref (s.heap.push o).objs.size)))
      { heap := (s.heap.push o).push { cls := .type "enumerate", data := .fields #[.none, .bool false, .ref s.heap.objs.size, rawInt 0, .none, .none] }, gens := s.gens, drawn := s.drawn, toks := s.toks, os := s.os } := by
  refine Meets.of_wp ?_
  intro prog w A R s h
  unfold Builtin.«enumerate.__new__»
  rw [newClass_enum]
  refine wpAny_bind (wpAny_pure ?_)
  have fin : ∀ (Q : Fin → Shared → Prop) (E : Value → Shared → Prop), (Q (.done (.ret (.ref (s.heap.push o).objs.size))) { heap := (s.heap.push o).push { cls := .type "enumerate", data := .fields #[.none, .bool false, .ref s.heap.objs.size, rawInt 0, .none, .none] }, gens := s.gens, drawn := s.drawn, toks := s.toks, os := s.os }) →
      wpAny (model prog w) A.in1 (do
        let it ← pyIter v
        let r ← Builtin.SmallTypes.newRecord (.type "enumerate") (Builtin.SmallTypes.ownedTupleFields ++ [it, rawInt 0, .none, .none])
        ret r) Q E s := by
    intro Q E q
    refine wpAny_bind (b.iter _ _ _ _ _ _ h.1 ?_)
    refine wpAny_bind ?_
    unfold Builtin.SmallTypes.newRecord
    show wpAny _ _ (newObj (.type "enumerate") (.fields #[.none, .bool false, .ref s.heap.objs.size, rawInt 0, .none, .none])) _ _ _
    unfold newObj newObjAsIs
    dsimp only
    rw [if_neg (by show ¬ (6 > sizeLine + 2); decide)]
    refine wpAny_bind (wpAny_alloc' ?_)
    refine wpAny_pure ?_
    unfold ret
    refine wpAny_pure ?_
    exact q
  show wpAny _ _ (Builtin.SmallTypes.calledThroughType (.type "enumerate") >>= _) _ _ s
  refine wpAny_bind ?_
  unfold Builtin.SmallTypes.calledThroughType
  refine wpAny_bind (wpAny_stack_any fun st => ?_)
  refine wpAny_pure ?_
  dsimp only
  split <;> (try split) <;> (try dsimp only) <;> (refine wpAny_bind ?_; refine wpAny_pure ?_; exact fin (fun f s' => ∃ v, f = .done (.ret v) ∧ R (.ok (.ret v)) s') (fun e s' => R (.error e) s') ⟨_, rfl, h.2⟩)
theorem enum_begins1 {prog : Program} {w : World} {A : Around} {E : Value → Shared → Prop} {s : Shared} {v : Value} {o : Obj} {H : Heap → Prop} {Q : Value → Shared → Prop} (b : Begins v o H) (hH : H s.heap)
    (k : ∀ h' : Heap, IsEnum h' (s.heap.objs.size + 1) s.heap.objs.size 0 .none → h'.get? s.heap.objs.size = some o → h'.objs.size = s.heap.objs.size + 2 → (∀ (c : Addr) (o' : Obj), s.heap.get? c = some o' → h'.get? c = some o') →
      Q (.ref (s.heap.objs.size + 1)) { heap := h', gens := s.gens, drawn := s.drawn, toks := s.toks, os := s.os }) :
    wpAny (model prog w) A (call (.type "enumerate") [v]) Q E s := by
  refine callType_new PySem.F.called_enumerate (by decide) (PySem.F.typeCall_enumerate_1 _) (PySem.F.newCall_enumerate_1 _) (fun obj => PySem.F.args_object_init_2 _ _) PySem.F.entry_enumerate_new (meets_enum1 b) ⟨hH, ?_⟩
  have h1 : (s.heap.push o).objs.size = s.heap.objs.size + 1 := Heap.size_push _ _
  have g1 : ((s.heap.push o).push { cls := .type "enumerate", data := .fields #[.none, .bool false, .ref s.heap.objs.size, rawInt 0, .none, .none] }).get? (s.heap.push o).objs.size = some { cls := .type "enumerate", data := .fields #[.none, .bool false, .ref s.heap.objs.size, rawInt 0, .none, .none] } := Heap.get?_push_size _ rfl
  refine ⟨⟨_, g1, rfl⟩, ?_⟩
  rw [h1] at g1 ⊢
  refine k _ g1 (Heap.get?_push_of_some _ (Heap.get?_push_size _ b.free)) (by rw [Heap.size_push, h1]) fun c o' e => Heap.get?_push_of_some _ (Heap.get?_push_of_some _ e)
end L2

set_option maxHeartbeats 4000000
namespace PA
open PySem L2 RZ
open C8 (pss_cut tCut)
open JM (fol Bd JB Cl Wi Rc en)
/-! ### pairs as keys -/
def lf : Option Nat → Leaf
  | none => .none
  | some n => .num (n : Int)
def lk (p : Ln) : LKey := [lf p.1, lf p.2]
theorem lf_inj {a b : Option Nat} (h : lf a = lf b) : a = b := by
  cases a <;> cases b <;> simp [lf] at h ⊢
  omega
theorem lk_inj {p q : Ln} (h : lk p = lk q) : p = q := by
  obtain ⟨a, b⟩ := p
  obtain ⟨c, d⟩ := q
  simp only [lk, List.cons.injEq, and_true] at h
  rw [lf_inj h.1, lf_inj h.2]
theorem isLn.key {H : Hp} {t : Addr} {p : Ln} (h : isLn H t p) : KeyAt H t (lk p) := by
  obtain ⟨a, b⟩ := p
  refine ⟨[ev a, ev b], h, .cons ?_ (.cons ?_ .nil)⟩
  · cases a with
    | none => rfl
    | some n => exact .inl rfl
  · cases b with
    | none => rfl
    | some n => exact .inl rfl
def gh : Nat → Int
  | 0 => reduceHash 0xFCA86420
  | n + 1 => hashInt (n : Int)
def fh (x y : Nat) : Int := reduceHash (Builtin.Tuple.tupleHashOf [gh x, gh y])
theorem fh_ne : ∀ x < 12, ∀ y < 12, fh x y ≠ gh 0 := by decide +kernel
theorem hash_lf (P : Program) (w : World) (a : Option Nat) : (leafKind P w).hash (lf a) = gh (JM.oc a) := by
  cases a with
  | none =>
    show NestedKey.hash w .none = _
    rw [NestedKey.hash]
    rfl
  | some n =>
    show NestedKey.hash w (.num (n : Int)) = _
    rw [NestedKey.hash]
    rfl
theorem hash_lk (P : Program) (w : World) (p : Ln) : (dxK P w).hash (lk p) = fh (JM.oc p.1) (JM.oc p.2) := by
  show reduceHash (Builtin.Tuple.tupleHashOf [(leafKind P w).hash (lf p.1), (leafKind P w).hash (lf p.2)]) = _
  rw [hash_lf, hash_lf]
  rfl
theorem no_non {P : Program} {w : World} {ps : List (LKey × V)} {Pl : List Ln} {n : Nat} (hn : n ≤ 11) (h : ∀ p ∈ Pl, (∀ a, p.1 = some a → a < n) ∧ ∀ a, p.2 = some a → a < n) (e : ps.map (·.1) = Pl.map lk) : NoNon P w ps := by
  intro q hq
  have : q.1 ∈ ps.map (·.1) := List.mem_map.mpr ⟨q, hq, rfl⟩
  rw [e] at this
  obtain ⟨p, hp, e1⟩ := List.mem_map.mp this
  have e2 : hNon P w = gh 0 := hash_lf P w none
  rw [← e1, hash_lk, e2]
  have b1 := JM.oc_le (h p hp).1
  have b2 := JM.oc_le (h p hp).2
  exact fh_ne _ (by omega) _ (by omega)
theorem val_keys : ∀ (ps : List (LKey × V)) (k : LKey), (valV ps k).isSome = decide (k ∈ ps.map (·.1))
  | [], k => by simp [valV]
  | p :: ps, k => by
    by_cases h : p.1 = k
    · rw [valV_pos h, List.map_cons, h]
      simp
    · rw [valV_neg h, val_keys ps k, List.map_cons, Bool.eq_iff_iff]
      simp
      intro z
      exact absurd z.symm h
end PA

set_option maxHeartbeats 8000000
namespace PA
open PySem L2 RZ
open C8 (pss_cut tCut)
open JM (fol Bd JB Cl Wi Rc en)
abbrev sFol : Stmt := top 12
abbrev sJoin : Stmt := top 11
abbrev sIn : Stmt := top 27
abbrev NFol : List Str := ["first", "second", "pair", "at", "either", "one", "two", "ended"]
theorem good_ok {ls : List Ln} (g : GoodL ls) : JM.LineOk ls := ⟨g.one, fun l hl c a h => by
  have := g.ok l hl
  cases c with
  | false => exact this.1 a h
  | true => exact this.2 a h⟩
def bV (c : Bool) : V := .int (if c = true then 1 else 0)
theorem at_ln {l : Ln} (c : Bool) : atI (lv l) (if c = true then 1 else 0) = some (ev (JM.sd l c)) := by
  cases c <;> rfl
theorem ev_non (o : Option Nat) : decide (ev o = V.non) = o.isNone := by
  cases o with
  | none => rfl
  | some n => exact decide_eq_false (by intro z; cases z)
def spFol (K : PySem.W.Frag) : Sp := fun vs H Q _ => ∃ (R1 R2 pc : Addr) (refs1 refs2 : List V) (A B : List Ln) (p : Ln) (c e : Bool), vs = [.ref R1, .ref R2, .ref pc, bV c, .bl e] ∧ H R1 = some (.tup refs1) ∧ Ea H isLn refs1 A ∧ H R2 = some (.tup refs2) ∧ Ea H isLn refs2 B ∧ isLn H pc p ∧ Bd A B p ∧
  (fol e A B p c = none → Q .non H) ∧ ∀ t q H', fol e A B p c = some q → Same H H' → isLn H' t q → Q (.ref t) H'
section
variable {P : Program} {w : World} {K : PySem.W.Frag} {mg : Str → Option Value} {base : Heap} {C : Addr}
theorem scFol : FnScope NFol ["first", "second", "pair", "at", "either"] (defScope sFol) := ⟨rfl, rfl, rfl, by decide +kernel, rfl, by decide +kernel, by decide +kernel⟩
theorem ok_fol {f : Addr} {fd : FuncData} (F : Fun K "_following" "_following" sFol f fd) (T : Txt K mg) : FnOk P w K mg base CX0 1 f fd ["first", "second", "pair", "at", "either"] (spFol K) := by
  refine F.ok scFol (fun vs H Q E h => ?_) (fun cdv A0 outer s H vs Q E hr h => ?_)
  · obtain ⟨R1, R2, pc, _, _, _, _, _, c, e, rfl, _⟩ := h
    rfl
  · obtain ⟨R1, R2, pc, refs1, refs2, A, B, p, c, e, rfl, h1, e1, h2, e2, hp, bd, kn, ks⟩ := h
    refine ⟨_, pss_cons (ps_asg (pv 2) (pg_tup rfl (pgs_cons (pg_name (i := 5) scFol.nd rfl (Or.inl rfl)) (pgs_cons (pg_name (i := 6) scFol.nd rfl (Or.inl rfl)) pgs_nil))))
      (pss_cut (ps_set (i := 5) scFol.nd rfl (Or.inl rfl) (pe_ifExp (pt_cmpR op_isN (pv 5) pe_non (nomark _)) pe_non (pe_ix ix_tup (pe_ix ix_tup (pv 0) (pv 5) (fun _ _ => rfl)) (pv 3) (fun _ _ => rfl))))
      (pss_cut (ps_set (i := 6) scFol.nd rfl (Or.inl rfl) (pe_ifExp (pt_cmpR op_isN (pv 6) pe_non (nomark _)) pe_non (pe_ix ix_tup (pe_ix ix_tup (pv 1) (pv 6) (fun _ _ => rfl)) (pv 3) (fun _ _ => rfl))))
      (pss_cut (ps_set (i := 7) scFol.nd rfl (Or.inl rfl) (pe_ifExp (pt_val (pv 4)) (pe_and (pe_cmpR op_isN (pv 5) pe_non (nomark _)) (pe_one (pe_cmpR op_isN (pv 6) pe_non (nomark _)))) (pe_or (pe_cmpR op_isN (pv 5) pe_non (nomark _)) (pe_one (pe_cmpR op_isN (pv 6) pe_non (nomark _))))))
      (pss_one (ps_ret (pe_ifExp (pt_val (pv 7)) pe_non (pe_tup (pa_cons (pv 5) (pa_cons (pv 6) pa_nil))))))))), ?_⟩
    obtain ⟨p1, p2⟩ := p
    have hp : H pc = some (.tup [ev p1, ev p2]) := hp
    refine ⟨_, rfl, pc, _, rfl, SqT.of hp, rfl, _, _, rfl, _, _, rfl, rfl, ?_⟩
    have ix : ∀ {R : Addr} {refs : List V} {A : List Ln} {i : Nat} {Q : VK}, H R = some (.tup refs) → Ea H isLn refs A → i < A.length → (∀ r, H r = some (.tup (lv A[i]!)) → True) → True := fun _ _ _ _ => trivial
    clear ix
    have rd : ∀ {R : Addr} {refs : List V} {A : List Ln} {i : Nat}, H R = some (.tup refs) → Ea H isLn refs A → i < A.length → ∃ r l, atI refs (i : Int) = some (.ref r) ∧ H r = some (.tup (lv l)) ∧ en A i c = JM.sd l c := fun {R refs A i} hR eA hi => by
      obtain ⟨r, hr, q⟩ := eA.get (List.getElem?_eq_getElem hi)
      refine ⟨r, A[i], ?_, q, JM.en_at (List.getElem?_eq_getElem hi)⟩
      unfold atI
      rw [Evl.ixN_nat (List.getElem?_eq_some_iff.mp hr).1]
      exact hr
    refine ⟨fun σ' H' => σ' = [some (.ref R1), some (.ref R2), some (.ref pc), some (bV c), some (.bl e), some (ev (p1.bind fun i => en A i c)), some (ev p2), none] ∧ H = H', ?_, ?_⟩
    · refine ⟨_, rfl, rfl, _, rfl, ?_⟩
      rw [ev_non]
      cases p1 with
      | none => exact iteT ⟨rfl, rfl⟩
      | some i =>
        obtain ⟨r, l, g1, g2, g3⟩ := rd h1 e1 (bd.1 i rfl)
        refine iteF ⟨_, rfl, _, rfl, R1, refs1, (i : Int), .ref r, rfl, rfl, SqT.of h1, g1, _, rfl, r, _, _, _, rfl, rfl, SqT.of g2, at_ln c, ?_, rfl⟩
        rw [← g3]
        rfl
    rintro _ _ ⟨rfl, rfl⟩
    refine ⟨fun σ' H' => σ' = [some (.ref R1), some (.ref R2), some (.ref pc), some (bV c), some (.bl e), some (ev (p1.bind fun i => en A i c)), some (ev (p2.bind fun i => en B i c)), none] ∧ H = H', ?_, ?_⟩
    · refine ⟨_, rfl, rfl, _, rfl, ?_⟩
      rw [ev_non]
      cases p2 with
      | none => exact iteT ⟨rfl, rfl⟩
      | some i =>
        obtain ⟨r, l, g1, g2, g3⟩ := rd h2 e2 (bd.2 i rfl)
        refine iteF ⟨_, rfl, _, rfl, R2, refs2, (i : Int), .ref r, rfl, rfl, SqT.of h2, g1, _, rfl, r, _, _, _, rfl, rfl, SqT.of g2, at_ln c, ?_, rfl⟩
        rw [← g3]
        rfl
    rintro _ _ ⟨rfl, rfl⟩
    have hf : fol e A B (p1, p2) c = if (if e = true then (p1.bind fun i => en A i c).isNone && (p2.bind fun j => en B j c).isNone else (p1.bind fun i => en A i c).isNone || (p2.bind fun j => en B j c).isNone) = true then none else some (p1.bind fun i => en A i c, p2.bind fun j => en B j c) := rfl
    generalize (p1.bind fun i => en A i c) = one at hf ⊢
    generalize (p2.bind fun i => en B i c) = two at hf ⊢
    refine ⟨fun σ' H' => σ' = [some (.ref R1), some (.ref R2), some (.ref pc), some (bV c), some (.bl e), some (ev one), some (ev two), some (.bl (if e = true then one.isNone && two.isNone else one.isNone || two.isNone))] ∧ H = H', ?_, ?_⟩
    · refine ⟨_, rfl, e, rfl, ?_⟩
      cases e with
      | true =>
        refine iteT ⟨_, rfl, rfl, _, rfl, ?_⟩
        rw [ev_non]
        cases h5 : one.isNone with
        | true =>
          refine iteT ⟨_, rfl, rfl, ?_⟩
          rw [ev_non]
          exact ⟨rfl, rfl⟩
        | false => exact iteF ⟨rfl, rfl⟩
      | false =>
        refine iteF ⟨_, rfl, rfl, _, rfl, ?_⟩
        rw [ev_non]
        cases h5 : one.isNone with
        | true => exact iteT ⟨rfl, rfl⟩
        | false =>
          refine iteF ⟨_, rfl, rfl, ?_⟩
          rw [ev_non]
          exact ⟨rfl, rfl⟩
    rintro _ _ ⟨rfl, rfl⟩
    generalize (if e = true then one.isNone && two.isNone else one.isNone || two.isNone) = b at hf ⊢
    refine ⟨_, rfl, b, rfl, ?_⟩
    cases b with
    | true => exact iteT (kn (by rw [hf]; rfl))
    | false =>
      refine iteF ⟨_, rfl, _, rfl, by show 2 ≤ sizeLine; decide, fun t ht => ?_⟩
      exact ks t (one, two) _ (by rw [hf]; rfl) (new_ ht) upd_same
end
end PA

set_option maxHeartbeats 8000000
namespace PA
open PySem L2 RZ
open C8 (pss_cut tCut)
open JM (fol Bd JB Cl Wi Rc en LineOk)
abbrev NJoin : List Str := ["first", "second", "either", "pairs", "numbers", "rows", "pair", "following", "after", "at"]
/-- the pairs that have been found, as they stand -/
structure JS (P : Program) (w : World) (H H' : Hp) (Pa D Rw : Addr) (Pl : List Ln) (prs : List V) (kvs : List DE) (rws : List V) : Prop where
  sm : Same H H'
  hP : H' Pa = some (.lst prs)
  eP : Ea H' isLn prs Pl
  hD : H' D = some (DX P w D kvs)
  ka : ∀ p ∈ kvs, KeyAt H' p.2.1 p.1
  em : (kvs.map fun p => (p.1, p.2.2)).map (·.1) = Pl.map lk
  hR : H' Rw = some (.lst rws)
section
variable {P : Program} {w : World} {H H' H2 : Hp} {Pa D Rw : Addr} {Pl : List Ln} {prs : List V} {kvs : List DE} {rws : List V}
theorem JS.same (I : JS P w H H' Pa D Rw Pl prs kvs rws) (s : Same H' H2) : JS P w H H2 Pa D Rw Pl prs kvs rws :=
  ⟨I.sm.trans s, s _ _ I.hP, I.eP.same s, s _ _ I.hD, fun p hp => (I.ka p hp).kt fun b ys e => s _ _ e, I.em, s _ _ I.hR⟩
theorem JS.has (I : JS P w H H' Pa D Rw Pl prs kvs rws) (q : Ln) : (valV (kvs.map fun p => (p.1, p.2.2)) (lk q)).isSome = decide (q ∈ Pl) := by
  rw [val_keys, I.em, Bool.eq_iff_iff, decide_eq_true_iff, decide_eq_true_iff]
  refine ⟨fun h => ?_, fun h => List.mem_map.mpr ⟨q, h, rfl⟩⟩
  obtain ⟨p, hp, e⟩ := List.mem_map.mp h
  rw [← lk_inj e]
  exact hp
theorem JS.lenK (I : JS P w H H' Pa D Rw Pl prs kvs rws) : kvs.length = Pl.length := by
  have := congrArg List.length I.em
  rwa [List.length_map, List.length_map, List.length_map] at this
theorem JS.no (I : JS P w H H' Pa D Rw Pl prs kvs rws) {q : Ln} (h : q ∉ Pl) : valV (kvs.map fun p => (p.1, p.2.2)) (lk q) = none := by
  have := I.has q
  rw [decide_eq_false h] at this
  cases hv : valV (kvs.map fun p => (p.1, p.2.2)) (lk q) with
  | none => rfl
  | some v => rw [hv] at this; cases this
theorem JS.tkD (I : JS P w H H' Pa D Rw Pl prs kvs rws) {o : HO} {c : Addr} {ys : List V} (e : H' c = some (.tup ys)) : (upd H' D o) c = some (.tup ys) := by
  rw [upd_ne (ne_of e I.hD (by intro z; cases z))]
  exact e
theorem JS.tkP (I : JS P w H H' Pa D Rw Pl prs kvs rws) {o : HO} {c : Addr} {ys : List V} (e : H' c = some (.tup ys)) : (upd H' Pa o) c = some (.tup ys) := by
  rw [upd_ne (ne_of e I.hP (by intro z; cases z))]
  exact e
theorem JS.tkR (I : JS P w H H' Pa D Rw Pl prs kvs rws) {o : HO} {c : Addr} {ys : List V} (e : H' c = some (.tup ys)) : (upd H' Rw o) c = some (.tup ys) := by
  rw [upd_ne (ne_of e I.hR (by intro z; cases z))]
  exact e
/-- a new pair: numbers[after] = v; pairs.append(after) -/
theorem JS.add (I : JS P w H H' Pa D Rw Pl prs kvs rws) (nP : H Pa = none) (nD : H D = none) (PR : Pa ≠ Rw) {q : Ln} {t : Addr} {v : V} (ht : isLn H' t q) :
    JS P w H (upd (upd H' D (DX P w D (kvs ++ [(lk q, t, v)]))) Pa (.lst (prs ++ [.ref t]))) Pa D Rw (Pl ++ [q]) (prs ++ [.ref t]) (kvs ++ [(lk q, t, v)]) rws := by
  have PD : Pa ≠ D := ne_of I.hP I.hD (by intro z; cases z)
  have RD : Rw ≠ D := ne_of I.hR I.hD (by intro z; cases z)
  have h1 : (upd H' D (DX P w D (kvs ++ [(lk q, t, v)]))) Pa = some (.lst prs) := by rw [upd_ne PD]; exact I.hP
  have tk : ∀ c ys, H' c = some (.tup ys) → (upd (upd H' D (DX P w D (kvs ++ [(lk q, t, v)]))) Pa (.lst (prs ++ [.ref t]))) c = some (.tup ys) := fun c ys e => by
    rw [upd_ne (ne_of (I.tkD e) h1 (by intro z; cases z))]
    exact I.tkD e
  refine ⟨fun c o e => ?_, upd_same, Ea.push (I.eP.imp fun c r q => tk _ _ q) (tk _ _ ht), ?_, fun p hp => ?_, ?_, ?_⟩
  · rw [upd_ne (ne_of_none e nP), upd_ne (ne_of_none e nD)]
    exact I.sm _ _ e
  · rw [upd_ne PD.symm, upd_same]
  · rcases List.mem_append.mp hp with hp | hp
    · exact (I.ka p hp).kt fun c ys e => tk _ _ e
    · cases List.mem_singleton.mp hp
      exact (isLn.key ht).kt fun c ys e => tk _ _ e
  · rw [List.map_append, List.map_append, I.em, List.map_append]
    rfl
  · rw [upd_ne PR.symm, upd_ne RD]
    exact I.hR
end
theorem JS.row {P : Program} {w : World} {H H' : Hp} {Pa D Rw : Addr} {Pl : List Ln} {prs : List V} {kvs : List DE} {rws : List V} (I : JS P w H H' Pa D Rw Pl prs kvs rws) (nR : H Rw = none) (PR : Pa ≠ Rw) (v : V) :
    JS P w H (upd H' Rw (.lst (rws ++ [v]))) Pa D Rw Pl prs kvs (rws ++ [v]) := by
  refine ⟨fun c o e => ?_, ?_, I.eP.imp fun c r q => I.tkR q, ?_, fun p hp => (I.ka p hp).kt fun c ys e => I.tkR e, I.em, upd_same⟩
  · rw [upd_ne (ne_of_none e nR)]
    exact I.sm _ _ e
  · rw [upd_ne PR]
    exact I.hP
  · rw [upd_ne (ne_of I.hR I.hD (by intro z; cases z)).symm]
    exact I.hD
/-- what stands for a following pair -/
def FV (H : Hp) : Option Ln → V → Prop
  | none, v => v = .non
  | some q, v => ∃ t, v = .ref t ∧ isLn H t q
theorem FV.kt {H H' : Hp} : ∀ {o : Option Ln} {v : V}, FV H o v → (∀ c ys, H c = some (.tup ys) → H' c = some (.tup ys)) → FV H' o v
  | none, v, h, _ => h
  | some q, v, ⟨t, e, h⟩, k => ⟨t, e, k _ _ h⟩
theorem u1 {a : Nat} (h : a + 64 < cLine) : a + 1 < cLine := Nat.lt_of_le_of_lt (Nat.add_le_add_left (by decide) a) h
def spJoin (K : PySem.W.Frag) : Sp := fun vs H Q _ => ∃ (R1 R2 : Addr) (refs1 refs2 : List V) (A B : List Ln), vs = [.ref R1, .ref R2, .bl true] ∧ H R1 = some (.tup refs1) ∧ Ea H isLn refs1 A ∧ H R2 = some (.tup refs2) ∧ Ea H isLn refs2 B ∧ LineOk A ∧ LineOk B ∧ A.length ≤ 10 ∧ B.length ≤ 10 ∧
  ∀ (t Pa Rw : Addr) (prs : List V) (Pl : List Ln) H', Same H H' → H' t = some (.tup [.ref Pa, .ref Rw]) → H' Pa = some (.lst prs) → Ea H' isLn prs Pl → JB A B Pl → Cl A B Pl Pl.length → Q (.ref t) H'
section
variable {P : Program} {w : World} {K : PySem.W.Frag} {mg : Str → Option Value} {base : Heap} {C : Addr}
theorem scJoin : FnScope NJoin ["first", "second", "either"] (defScope sJoin) := ⟨rfl, rfl, rfl, by decide +kernel, rfl, by decide +kernel, by decide +kernel⟩
theorem ok_join {f g : Addr} {fd gd : FuncData} (F : Fun K "joined" "joined" sJoin f fd) (T : Txt K mg) (D1 : Df K mg "_following" sFol g gd ["first", "second", "pair", "at", "either"]) : FnOk P w K mg base CX0 2 f fd ["first", "second", "either"] (spJoin K) := by
  have G : FnOk P w K mg base CX0 1 g gd ["first", "second", "pair", "at", "either"] (spFol K) := ok_fol D1.F T
  refine F.ok scJoin (fun vs H Q E h => ?_) (fun cdv A0 outer s H vs Q E hr h => ?_)
  · obtain ⟨R1, R2, _, _, _, _, rfl, _⟩ := h
    rfl
  · obtain ⟨R1, R2, refs1, refs2, A, B, rfl, h1, e1, h2, e2, oA, oB, lA, lB, kk⟩ := h
    have hu := u1 hr.units
    refine ⟨_, pss_cons (ps_set (i := 3) scJoin.nd rfl (Or.inl rfl) (pe_lst (pa_cons (pe_tup (pa_cons pe_int (pa_cons pe_int pa_nil))) pa_nil)))
      (pss_cons (ps_set (i := 4) scJoin.nd rfl (Or.inr rfl) (pe_disp1 hu (pe_tup (pa_cons pe_int (pa_cons pe_int pa_nil))) pe_int))
      (pss_cons (ps_set (i := 5) scJoin.nd rfl (Or.inl rfl) (pe_lst pa_nil))
      (pss_cons (ps_while PassesOwn.never (pt_cmpR op_lt (pe_callB call_len_seq (by rfl) T.len_ PySem.boot_len (pa_cons (pv 5) pa_nil)) (pe_callB call_len_seq (by rfl) T.len_ PySem.boot_len (pa_cons (pv 3) pa_nil)) (nomark _))
        (pss_cons (ps_set (i := 6) scJoin.nd rfl (Or.inr rfl) (pe_ix ix_list (pv 3) (pe_callB call_len_seq (by rfl) T.len_ PySem.boot_len (pa_cons (pv 5) pa_nil)) (fun _ _ => rfl)))
        (pss_cons (ps_setLc (i := 7) (own := [("at", 9)]) (g := gName 9) (tt := tYes) (by rfl) scJoin.nd rfl rfl (sw_true rfl rfl rfl (by decide +kernel)) (pi_tup (pe_tup (pa_cons pe_int (pa_cons pe_int pa_nil)))) (blkOk_by (N := NJoin) (sc := defScope sJoin) (by decide +kernel))
          (fun _ _ _ _ _ => pg_name (i := 9) scJoin.nd rfl (Or.inl rfl)) (fun _ _ _ _ _ => pts_nil)
          (fun _ _ _ _ _ => pe_call G hr rfl D1.M D1.F.kp D1.B .nil pass0 (pa_cons (pv 0) (pa_cons (pv 1) (pa_cons (pv 6) (pa_cons (pv 9) (pa_cons (pv 2) pa_nil)))))))
        (pss_cons (ps_for PassesOwn.never rfl (pi_list (pv 7)) (pg_name (i := 8) scJoin.nd rfl (Or.inl rfl))
          (pss_one (ps_if (PW.pt (pw_and (pt_cmpR op_notN (pv 8) pe_non (nomark _)) (pw_and1 (pt_cmpR (op_notIn_dx hu) (pv 8) (pv 4) rfl))))
            (pss_cons (ps_asg (pe_callB call_len_seq (by rfl) T.len_ PySem.boot_len (pa_cons (pv 3) pa_nil)) (pg_sub (pv 4) (pv 8) (set_dx hu)))
            (pss_one (ps_expr (pe_bm PySem.F.plainAttrs_list PySem.F.slot_list_append PySem.F.type_list_append mt_append (pv 3) (pa_cons (pv 8) pa_nil))))) pss_nil)))
        (pss_one (ps_expr (pe_bm PySem.F.plainAttrs_list PySem.F.slot_list_append PySem.F.type_list_append mt_append (pv 5) (pa_cons (pe_callTy call_tuple_of (by rfl) T.tup_ boot_tuple' (pa_cons (pe_lc (own := [("after", 8)]) (g := gName 8) (tt := tYes) (by rfl) scJoin.nd (pi_list (pv 7)) (blkOk_by (N := NJoin) (sc := defScope sJoin) (by decide +kernel))
          (fun _ _ _ _ _ => pg_name (i := 8) scJoin.nd rfl (Or.inl rfl)) (fun _ _ _ _ _ => pts_nil)
          (fun _ _ _ _ _ => pe_dxgetK (P := P) (w := w) rfl rfl hu (pv 4) (pv 8))) pa_nil)) pa_nil))))))))
      (pss_one (ps_ret (pe_tup (pa_cons (pv 3) (pa_cons (pv 5) pa_nil)))))))), ?_⟩
    refine ⟨by show 2 ≤ sizeLine; decide, fun t0 ht0 => ⟨by show 1 ≤ sizeLine; decide, fun Pa hPa => ?_⟩⟩
    have f0 := new_ (o := .tup [V.int 0, .int 0]) ht0
    have g0 : isLn (upd H t0 (.tup [V.int 0, .int 0])) t0 (some 0, some 0) := upd_same
    generalize (upd H t0 (.tup [V.int 0, .int 0])) = Ha at f0 g0 hPa ⊢
    have nP : H Pa = none := Same.none f0 hPa
    have f1 := f0.trans (new_ (o := .lst [.ref t0]) hPa)
    have g1 : isLn (upd Ha Pa (.lst [.ref t0])) t0 (some 0, some 0) := new_ hPa _ _ g0
    have gP : (upd Ha Pa (.lst [.ref t0])) Pa = some (.lst [.ref t0]) := upd_same
    generalize (upd Ha Pa (.lst [.ref t0])) = Hb at f1 g1 gP ⊢
    clear f0 g0 hPa
    intro D hD
    have nD : H D = none := Same.none f1 hD
    refine ⟨by show 2 ≤ sizeLine; decide, fun k0 hk0 => ?_⟩
    have kD : k0 ≠ D := fun z => by rw [z, upd_same] at hk0; cases hk0
    have nk : Hb k0 = none := by rwa [upd_ne kD] at hk0
    have g2 : (upd (upd Hb D (DX P w D [])) k0 (.tup [V.int 0, .int 0])) D = some (DX P w D []) := by rw [upd_ne kD.symm, upd_same]
    have gk : isLn (upd (upd Hb D (DX P w D [])) k0 (.tup [V.int 0, .int 0])) k0 (some 0, some 0) := upd_same
    refine ⟨k0, lk (some 0, some 0), rfl, g2, isLn.key gk, ?_⟩
    refine ⟨Nat.zero_le _, fun Rw hRw => ?_⟩
    have DP : Pa ≠ D := ne_of_none gP hD
    have kP : Pa ≠ k0 := ne_of_none gP nk
    have keep : ∀ c o, Hb c = some o → (upd (upd (upd Hb D (DX P w D [])) k0 (.tup [V.int 0, .int 0])) D (DX P w D [(lk (some 0, some 0), k0, .int 0)])) c = some o := fun c o e => by
      rw [upd_ne (ne_of_none e hD), upd_ne (ne_of_none e nk), upd_ne (ne_of_none e hD)]
      exact e
    have eR := new_ (o := .lst []) hRw
    have nR : H Rw = none := Same.none f1 (Same.none keep hRw)
    have PR : Pa ≠ Rw := ne_of_none (keep _ _ gP) hRw
    have gkk : isLn (upd (upd (upd Hb D (DX P w D [])) k0 (.tup [V.int 0, .int 0])) D (DX P w D [(lk (some 0, some 0), k0, .int 0)])) k0 (some 0, some 0) := by
      show _ = _
      rw [upd_ne kD]
      exact gk
    have I0 : JS P w H (upd (upd (upd (upd Hb D (DX P w D [])) k0 (.tup [V.int 0, .int 0])) D (DX P w D [(lk (some 0, some 0), k0, .int 0)])) Rw (.lst [])) Pa D Rw [(some 0, some 0)] [.ref t0] [(lk (some 0, some 0), k0, .int 0)] [] := by
      refine ⟨fun c o e => eR _ _ (keep _ _ (f1 _ _ e)), eR _ _ (keep _ _ gP), Ea.one (eR _ _ (keep _ _ g1)), eR _ _ upd_same, fun p hp => ?_, rfl, upd_same⟩
      rw [List.mem_singleton.mp hp]
      exact isLn.key (eR _ _ gkk)
    refine ⟨fun m σ' H' => ∃ (Pl : List Ln) (prs : List V) (kvs : List DE) (rws : List V) (x6 x7 x8 : Option V), σ' = [some (.ref R1), some (.ref R2), some (.bl true), some (.ref Pa), some (.ref D), some (.ref Rw), x6, x7, x8, none] ∧ JS P w H H' Pa D Rw Pl prs kvs rws ∧ JB A B Pl ∧ Cl A B Pl rws.length ∧ rws.length ≤ Pl.length ∧ rws.length + m = 122, ⟨122, _, _, _, _, none, none, none, rfl, I0, .init oA oB, fun k p c q hk => absurd hk (Nat.not_lt_zero _), Nat.zero_le _, rfl⟩, ?_⟩
    clear I0 gkk g2 gk keep eR hRw hD hk0 gP g1
    rintro m _ H3 ⟨Pl, prs, kvs, rws, x6, x7, x8, rfl, I, b, cl, hd, hm⟩
    have few := b.few
    have fAB : (A.length + 1) * (B.length + 1) ≤ 11 * 11 := Nat.mul_le_mul (by omega) (by omega)
    have lpr : prs.length = Pl.length := I.eP.1
    refine ⟨_, rfl, Rw, _, rfl, .inl (SqL.of I.hR), _, rfl, Pa, _, rfl, .inl (SqL.of I.hP), _, _, rfl, rfl, _, rfl, ifD_2 (fun hlt => ?_) (fun hge => ?_)⟩
    rotate_left
    · have hend : rws.length = Pl.length := by omega
      refine ⟨_, rfl, _, rfl, by show 2 ≤ sizeLine; decide, fun t ht => ?_⟩
      have en' := new_ (o := .tup [.ref Pa, .ref Rw]) ht
      exact kk t Pa Rw prs Pl _ (I.sm.trans en') upd_same (en' _ _ I.hP) (I.eP.same en') b (hend ▸ cl)
    have hlt' : rws.length < Pl.length := by omega
    refine ⟨fun σ' H' => ∃ m', m' < m ∧ ∃ (Pl : List Ln) (prs : List V) (kvs : List DE) (rws : List V) (x6 x7 x8 : Option V), σ' = [some (.ref R1), some (.ref R2), some (.bl true), some (.ref Pa), some (.ref D), some (.ref Rw), x6, x7, x8, none] ∧ JS P w H H' Pa D Rw Pl prs kvs rws ∧ JB A B Pl ∧ Cl A B Pl rws.length ∧ rws.length ≤ Pl.length ∧ rws.length + m' = 122, fun _ _ h => h, ?_⟩
    have hpl : Pl[rws.length]? = some Pl[rws.length] := List.getElem?_eq_getElem hlt'
    have hpm : Pl[rws.length] ∈ Pl := List.getElem_mem hlt'
    generalize Pl[rws.length] = p at hpl hpm
    obtain ⟨c, hc, hcl⟩ := I.eP.get hpl
    have hat : atI prs (((rws.length : Nat) : Int)) = some (.ref c) := by
      unfold atI
      rw [Evl.ixN_nat (List.getElem?_eq_some_iff.mp hc).1]
      exact hc
    refine ⟨_, rfl, _, rfl, Rw, _, rfl, .inl (SqL.of I.hR), Pa, prs, ((rws.length : Nat) : Int), .ref c, rfl, rfl, SqL.of I.hP, hat, ?_⟩
    refine ⟨by show 2 ≤ sizeLine; decide, fun tp htp => ⟨tp, rfl, ⟨_, SqT.of upd_same⟩, fun F hF => ?_⟩⟩
    have etp := new_ (o := .tup [V.int 0, .int 1]) htp
    have gtp : (upd H3 tp (.tup [V.int 0, .int 1])) tp = some (.tup [V.int 0, .int 1]) := upd_same
    have I4 := I.same etp
    have hcl4 : isLn (upd H3 tp (.tup [V.int 0, .int 1])) c p := etp _ _ hcl
    clear I hcl htp
    generalize (upd H3 tp (.tup [V.int 0, .int 1])) = H4 at etp gtp I4 hcl4 hF ⊢
    have eF := new_ (o := .lst []) hF
    have FP : Pa ≠ F := ne_of_none I4.hP hF
    have FR : Rw ≠ F := ne_of_none I4.hR hF
    have nF : H F = none := Same.none I4.sm hF
    refine lc_tup (K := K) (a := tp) (xs := [V.int 0, .int 1]) (fun i H' => Same H4 H' ∧ ∃ acc, H' F = some (.lst acc) ∧ acc.length = i ∧ ∀ (k : Nat) (v : V) (o : Option Ln), acc[k]? = some v → [fol true A B p false, fol true A B p true][k]? = some o → FV H' o v) ?_ ?_ ?_ ?_
    · exact ⟨eF, [], upd_same, rfl, fun k v o h => by simp at h⟩
    · rintro i H' _ ⟨s', _⟩
      exact SqT.of (s' _ _ gtp)
    · rintro i x H5 hx ⟨s5, acc, hd5, hl5, hv5⟩
      have hi : i < 2 := (List.getElem?_eq_some_iff.mp hx).1
      obtain ⟨b0, rfl, hfo⟩ : ∃ b0, x = bV b0 ∧ [fol true A B p false, fol true A B p true][i]? = some (fol true A B p b0) := by
        match i, hx with
        | 0, hx => cases hx; exact ⟨false, rfl, rfl⟩
        | 1, hx => cases hx; exact ⟨true, rfl, rfl⟩
        | (i + 2), hx => simp at hx
      have I5 := I4.same s5
      have done : ∀ (v : V) (H6 : Hp), Same H5 H6 → FV H6 (fol true A B p b0) v → ∃ acc', H6 F = some (.lst acc') ∧ acc'.length < sizeLine ∧ (Same H4 (upd H6 F (.lst (acc' ++ [v]))) ∧ ∃ acc, (upd H6 F (.lst (acc' ++ [v]))) F = some (.lst acc) ∧ acc.length = i + 1 ∧ ∀ (k : Nat) (u : V) (o : Option Ln), acc[k]? = some u → [fol true A B p false, fol true A B p true][k]? = some o → FV (upd H6 F (.lst (acc' ++ [v]))) o u) := by
        intro v H6 s6 hv
        have hd6 := s6 _ _ hd5
        have tk : ∀ c ys, H6 c = some (.tup ys) → (upd H6 F (.lst (acc ++ [v]))) c = some (.tup ys) := fun c ys e => by
          rw [upd_ne (ne_of e hd6 (by intro z; cases z))]
          exact e
        refine ⟨acc, hd6, Nat.lt_of_lt_of_le (by omega : acc.length < 16) (by decide), fun c o e => ?_, acc ++ [v], upd_same, by rw [List.length_append, hl5]; rfl, fun k v' o g1 g2 => ?_⟩
        · rw [upd_ne (ne_of_none e hF)]
          exact s6 _ _ (s5 _ _ e)
        · by_cases hk : k < acc.length
          · rw [List.getElem?_append_left hk] at g1
            exact ((hv5 k v' o g1 g2).kt fun c ys e => s6 _ _ e).kt tk
          · have hk' : k = i := by
              have := (List.getElem?_eq_some_iff.mp g1).1
              rw [List.length_append] at this
              have e1 : ([v] : List V).length = 1 := rfl
              omega
            subst hk'
            rw [List.getElem?_append_right (by omega), hl5, Nat.sub_self] at g1
            have ev' : v' = v := by cases g1; rfl
            rw [hfo] at g2
            cases g2
            rw [ev']
            exact hv.kt tk
      refine ⟨rfl, ?_⟩
      dsimp only [tYes]
      rw [if_pos rfl]
      exact ⟨_, rfl, _, rfl, _, rfl, _, rfl, _, rfl, R1, R2, c, refs1, refs2, A, B, p, b0, true, rfl, I5.sm _ _ h1, e1.same I5.sm, I5.sm _ _ h2, e2.same I5.sm, s5 _ _ hcl4, b.bd p hpm, fun hn => done .non H5 (fun _ _ h => h) (by rw [hn]; rfl), fun t q H6 hq s6 ht => done (.ref t) H6 s6 (by rw [hq]; exact ⟨t, rfl, ht⟩)⟩
    rintro H5 ⟨s5, acc, hF5, hl5, hv5⟩
    obtain ⟨v0, v1, rfl⟩ : ∃ v0 v1, acc = [v0, v1] := by
      match acc, hl5 with
      | [a, b], _ => exact ⟨a, b, rfl⟩
    have w0 : FV H5 (fol true A B p false) v0 := hv5 0 v0 _ rfl rfl
    have w1 : FV H5 (fol true A B p true) v1 := hv5 1 v1 _ rfl rfl
    have I5 := I4.same s5
    clear hv5 hl5 I4 s5 eF hF gtp etp hcl4
    refine ⟨_, rfl, F, rfl, ⟨_, SqL.of hF5⟩, ?_⟩
    refine for_list (xs := [v0, v1]) (fun i σ' H' => ∃ (X : List Ln) (prs : List V) (kvs : List DE) (x8 : Option V), σ' = [some (.ref R1), some (.ref R2), some (.bl true), some (.ref Pa), some (.ref D), some (.ref Rw), some (.ref c), some (.ref F), x8, none] ∧ JS P w H H' Pa D Rw (Pl ++ X) prs kvs rws ∧ JB A B (Pl ++ X) ∧ H' F = some (.lst [v0, v1]) ∧ FV H' (fol true A B p false) v0 ∧ FV H' (fol true A B p true) v1 ∧
      (1 ≤ i → ∀ q, fol true A B p false = some q → q ∈ Pl ++ X) ∧ (2 ≤ i → ∀ q, fol true A B p true = some q → q ∈ Pl ++ X)) ?_ ?_ ?_ ?_
    · exact ⟨[], prs, kvs, _, rfl, by rw [List.append_nil]; exact I5, by rw [List.append_nil]; exact b, hF5, w0, w1, fun z => absurd z (by decide), fun z => absurd z (by decide)⟩
    · rintro i σ' H' _ ⟨_, _, _, _, _, _, _, hF', _⟩
      exact SqL.of hF'
    · rintro i x _ H6 hx ⟨X, prs, kvs, x8, rfl, I6, b6, hF6, w0, w1, o0, o1⟩
      obtain ⟨bi, wi, hcase⟩ : ∃ bi, FV H6 (fol true A B p bi) x ∧ ((i = 0 ∧ bi = false) ∨ (i = 1 ∧ bi = true)) := by
        match i, hx with
        | 0, hx => cases hx; exact ⟨false, w0, .inl ⟨rfl, rfl⟩⟩
        | 1, hx => cases hx; exact ⟨true, w1, .inr ⟨rfl, rfl⟩⟩
        | (i + 2), hx => simp at hx
      have close : ∀ (X' : List Ln), (∀ r, r ∈ Pl ++ X → r ∈ Pl ++ X') → (∀ q, fol true A B p bi = some q → q ∈ Pl ++ X') → (1 ≤ i + 1 → ∀ q, fol true A B p false = some q → q ∈ Pl ++ X') ∧ (2 ≤ i + 1 → ∀ q, fol true A B p true = some q → q ∈ Pl ++ X') := by
        intro X' mono hq
        rcases hcase with ⟨rfl, rfl⟩ | ⟨rfl, rfl⟩
        · exact ⟨fun _ => hq, fun z => absurd z (by decide)⟩
        · exact ⟨fun _ q e => mono q (o0 (by decide) q e), fun _ => hq⟩
      clear hcase
      have few6 := b6.few
      have lpr6 : prs.length = (Pl ++ X).length := I6.eP.1
      cases ho : fol true A B p bi with
      | none =>
        rw [ho] at wi
        have wi : x = .non := wi
        subst wi
        refine ⟨_, rfl, rfl, _, rfl, ?_⟩
        rw [decide_eq_true rfl]
        exact iteF ⟨X, prs, kvs, _, rfl, I6, b6, hF6, w0, w1, close X (fun r h => h) (fun q e => by rw [ho] at e; cases e)⟩
      | some q =>
        rw [ho] at wi
        obtain ⟨t, rfl, ht⟩ := wi
        refine ⟨_, rfl, rfl, _, rfl, ?_⟩
        rw [decide_eq_false (by intro z; cases z)]
        refine iteT ⟨_, rfl, _, rfl, D, t, _, lk q, rfl, rfl, ⟨kvs, I6.hD, rfl, I6.ka⟩, isLn.key ht, _, rfl, ?_⟩
        rw [I6.has]
        by_cases hin : q ∈ Pl ++ X
        · rw [decide_eq_true hin]
          exact iteF ⟨X, prs, kvs, _, rfl, I6, b6, hF6, w0, w1, close X (fun r h => h) (fun q' e => by rw [ho] at e; cases e; exact hin)⟩
        rw [decide_eq_false hin]
        have hlen : (Pl ++ X).length ≤ 121 := Nat.le_trans few6 fAB
        refine iteT ⟨_, rfl, Pa, _, rfl, .inl (SqL.of I6.hP), _, rfl, _, rfl, D, t, kvs, lk q, rfl, rfl, I6.hD, I6.ka, isLn.key ht, I6.no hin, ?_, ?_⟩
        · rw [I6.lenK]
          exact Nat.lt_of_le_of_lt hlen (by decide)
        have hP7 : (upd H6 D (DX P w D (kvs ++ [(lk q, t, V.int ((prs.length : Nat) : Int))]))) Pa = some (.lst prs) := by
          rw [upd_ne DP]
          exact I6.hP
        refine ⟨_, rfl, .inl ⟨rfl, _, SqL.of hP7⟩, _, rfl, Pa, _, _, rfl, rfl, hP7, ?_, ?_⟩
        · rw [lpr6]
          exact Nat.lt_of_le_of_lt hlen (by decide)
        have I7 := I6.add nP nD PR (v := V.int ((prs.length : Nat) : Int)) ht
        have FD : F ≠ D := ne_of hF6 I6.hD (by intro z; cases z)
        have tk : ∀ b ys, H6 b = some (.tup ys) → (upd (upd H6 D (DX P w D (kvs ++ [(lk q, t, V.int ((prs.length : Nat) : Int))]))) Pa (.lst (prs ++ [.ref t]))) b = some (.tup ys) := fun b ys e => by
          rw [upd_ne (ne_of (I6.tkD e) hP7 (by intro z; cases z))]
          exact I6.tkD e
        refine ⟨X ++ [q], _, _, _, rfl, by rw [← List.append_assoc]; exact I7, by rw [← List.append_assoc]; exact b6.add oA oB (List.mem_append.mpr (.inl hpm)) ho hin, ?_, w0.kt tk, w1.kt tk, close (X ++ [q]) (fun r h => ?_) (fun q' e => ?_)⟩
        · rw [upd_ne FP.symm, upd_ne FD]
          exact hF6
        · rw [← List.append_assoc]
          exact List.mem_append.mpr (.inl h)
        · rw [ho] at e
          cases e
          rw [← List.append_assoc]
          exact List.mem_append.mpr (.inr (List.mem_singleton.mpr rfl))
    rintro σ' H6 ⟨X, prs, kvs, x8, rfl, I6, b6, hF6, w0, w1, o0, o1⟩
    have o0 := o0 (by show 1 ≤ 2; decide)
    have o1 := o1 (by show 2 ≤ 2; decide)
    have few6 := Nat.le_trans b6.few fAB
    refine ⟨_, rfl, .inl ⟨rfl, _, SqL.of I6.hR⟩, ?_⟩
    refine ⟨_, rfl, F, rfl, ⟨_, SqL.of hF6⟩, fun L hL => ?_⟩
    have eL := new_ (o := .lst []) hL
    refine lc_list (K := K) (a := F) (xs := [v0, v1]) (fun i H' => Same H6 H' ∧ ∃ acc, H' L = some (.lst acc) ∧ acc.length = i) ?_ ?_ ?_ ?_
    · exact ⟨eL, [], upd_same, rfl⟩
    · rintro i H' _ ⟨s', _⟩
      exact SqL.of (s' _ _ hF6)
    · rintro i x H7 hx ⟨s7, acc, hL7, hl7⟩
      have hi : i < 2 := (List.getElem?_eq_some_iff.mp hx).1
      have I7 := I6.same s7
      obtain ⟨o, hfv⟩ : ∃ o, FV H7 o x := by
        match i, hx with
        | 0, hx => cases hx; exact ⟨_, w0.kt fun c ys e => s7 _ _ e⟩
        | 1, hx => cases hx; exact ⟨_, w1.kt fun c ys e => s7 _ _ e⟩
        | (i + 2), hx => simp at hx
      have done : ∀ v : V, ∃ acc, H7 L = some (.lst acc) ∧ acc.length < sizeLine ∧ (Same H6 (upd H7 L (.lst (acc ++ [v]))) ∧ ∃ acc', (upd H7 L (.lst (acc ++ [v]))) L = some (.lst acc') ∧ acc'.length = i + 1) := by
        intro v
        refine ⟨acc, hL7, Nat.lt_of_lt_of_le (by omega : acc.length < 16) (by decide), fun c o e => ?_, acc ++ [v], upd_same, by rw [List.length_append, hl7]; rfl⟩
        rw [upd_ne (ne_of_none e hL)]
        exact s7 _ _ e
      refine ⟨rfl, ?_⟩
      dsimp only [tYes]
      rw [if_pos rfl]
      refine ⟨_, rfl, D, rfl, ⟨_, I7.hD⟩, _, rfl, _, ⟨kvs, I7.hD, rfl, I7.ka⟩, ?_⟩
      cases o with
      | none =>
        have hfv : x = .non := hfv
        subst hfv
        exact .inr ⟨rfl, no_non (n := 10) (by decide) (fun p hp => ⟨fun a h => Nat.lt_of_lt_of_le ((b6.bd p hp).1 a h) lA, fun a h => Nat.lt_of_lt_of_le ((b6.bd p hp).2 a h) lB⟩) I7.em, done _⟩
      | some q =>
        obtain ⟨t, rfl, ht⟩ := hfv
        exact .inl ⟨t, lk q, rfl, isLn.key ht, done _⟩
    rintro H7 ⟨s7, acc, hL7, hl7⟩
    refine ⟨L, _, rfl, .inl ⟨SqL.of hL7, fun tt htt => ?_⟩⟩
    have I8 := (I6.same s7).same (new_ (o := .tup acc) htt)
    refine ⟨Rw, _, _, rfl, rfl, I8.hR, Nat.lt_of_lt_of_le (by omega : rws.length < 122) (by decide), ?_⟩
    have lX : (Pl ++ X).length = Pl.length + X.length := List.length_append
    have lr1 : (rws ++ [V.ref tt]).length = rws.length + 1 := List.length_append
    refine ⟨m - 1, by omega, Pl ++ X, prs, kvs, rws ++ [.ref tt], _, _, _, rfl, I8.row nR PR _, b6, ?_, by omega, by omega⟩
    intro k p' cc q hk hp' hq
    rw [lr1] at hk
    by_cases hk' : k < rws.length
    · exact (cl.more X (by omega)) k p' cc q hk' hp' hq
    · obtain rfl : k = rws.length := by omega
      rw [List.getElem?_append_left hlt', hpl] at hp'
      cases hp'
      cases cc with
      | false => exact o0 q hq
      | true => exact o1 q hq
end
end PA

set_option maxHeartbeats 2000000
namespace PLow
open PySem PySem.W PySem.Calls PyProof.Rows
section
variable {prog : Program} {w : World} {M : Model} {A : Around} {E : Value → Shared → Prop} {s : Shared} {K : Frag} {x C L f : Addr} {h₀ : Heap} {m : Str → Option Value} {ox : Obj} {od : Option Obj} {nm : String}

/-- an int's own slot declines an instance -/
theorem add_declines {a : Int} {t : Tok} {R : PySem.Fin → Shared → Prop} (ho : s.heap.get? x = some ox) (hd : ∀ v, ox.data ≠ .prim v) (h : R (.done (.ret .notImplemented)) s) :
    wpAny (model prog w) A (Builtin.«int.__add__» ⟨[Value.int a t, Value.ref x], []⟩) R E s := by
  obtain ⟨hp, g, d, tk, os⟩ := s
  wp_walk
  split
  · rename_i e
    exact absurd e (hd _)
  · wp_walk
    exact h
theorem sub_declines {a : Int} {t : Tok} {R : PySem.Fin → Shared → Prop} (ho : s.heap.get? x = some ox) (hd : ∀ v, ox.data ≠ .prim v) (h : R (.done (.ret .notImplemented)) s) :
    wpAny (model prog w) A (Builtin.«int.__sub__» ⟨[Value.int a t, Value.ref x], []⟩) R E s := by
  obtain ⟨hp, g, d, tk, os⟩ := s
  wp_walk
  split
  · rename_i e
    exact absurd e (hd _)
  · wp_walk
    exact h
theorem mul_declines {a : Int} {t : Tok} {R : PySem.Fin → Shared → Prop} (ho : s.heap.get? x = some ox) (hd : ∀ v, ox.data ≠ .prim v) (h : R (.done (.ret .notImplemented)) s) :
    wpAny (model prog w) A (Builtin.«int.__mul__» ⟨[Value.int a t, Value.ref x], []⟩) R E s := by
  obtain ⟨hp, g, d, tk, os⟩ := s
  wp_walk
  split
  · rename_i e
    exact absurd e (hd _)
  · wp_walk
    exact h

/-- the left operand's own slot, the right one declines: an int and an instance with the reflected method -/
theorem rbin {op : Operator} {id : String} {a : Int} {t : Tok} {B : Builtin} {Q : Value → Shared → Prop} {g : Addr} (F : Fr h₀ L s.heap m) (X₀ : K.In h₀) (I : InstAt s.heap x ox C od) (hc : selfFirst K C = true)
    (hs : findIn K (.ref C) (PySem.dunder op.info.2) = some (some (.ref g))) (hr : findIn K (.ref C) (dunderR op.info.2) = some (some (.ref f))) (hf : isFn K (.ref f) = true)
    (hfT : fillsNumberSlot (.type "int") op.info.2 = pure true) (hsub : subIn K (.ref C) (.type "int") = some false)
    (slot : Slot "int" (PySem.dunder op.info.2) id) (entry : entryFor table id = some B) (args : argsOk id ⟨[Value.int a t, .ref x], []⟩)
    (dec : ∀ (A : Around) (E : Value → Shared → Prop) (R : PySem.Fin → Shared → Prop), R (.done (.ret .notImplemented)) s → wpAny (model prog w) A (B ⟨[Value.int a t, .ref x], []⟩) R E s)
    (h : wpAny (model prog w) A (call (.ref f) [.ref x, .int a t]) (PySem.W.CmpBack Q) E s) : wpAny (model prog w) A (binaryOp op (.int a t) (.ref x)) Q E s := by
  have X := X₀.keeps F.keep
  obtain ⟨cd, rest, hcd, hm⟩ := ksp_first hc
  rcases hi : op.info with ⟨sym, nm'⟩
  rw [hi] at hs hr hfT slot
  dsimp only at hs hr hfT slot
  have one := ksp_try X I hr hf h
  have L0 : Looks (model prog w) s.heap (typeOf (.int a t)) (.type "int") := Looks.of_pure rfl
  have L1 : Looks (model prog w) s.heap (typeOf (.ref x)) (.ref C) := I.type
  have L3 : Looks (model prog w) s.heap (fillsNumberSlot (.ref C) nm') true := fills_K X hcd hm hs
  have L5 : Looks (model prog w) s.heap (isSubtype (.ref C) (.type "int")) false := looks_subIn X hsub
  have hne : (Value.type "int" == Value.ref C) = false := Bool.eq_false_iff.mpr fun q => by cases beq_iff_eq.mp q
  have hpy : numberSlotInPython (.type "int") nm' = pure false := rfl
  simp only [binaryOp, hi]
  refine wpAny_holding (wpAny_bind ?_)
  unfold binaryOp1
  refine wpAny_bind (L0.here (wpAny_bind (L1.here (wpAny_bind (wpAny_of_eq hfT ?_)))))
  simp only [hne, Bool.false_eq_true, if_false]
  refine wpAny_bind (L3.here ?_)
  simp only [Bool.and_self, if_true]
  refine wpAny_bind (L5.here ?_)
  simp only [Bool.false_eq_true, if_false, pure_bind, Bool.not_false, Bool.and_self, if_true, hpy]
  refine wpAny_bind (wpAny_tryMethod_declines (id := id) (typeIs_int s a t) slot ?_)
  refine GQ.call_here slot (typeIs_int s a t) entry args (dec _ _ _ ?_)
  refine ⟨rfl, ?_⟩
  refine wpAny_bind (wpAny_mono one (fun r s' hr' => ?_) fun _ _ e => e)
  obtain ⟨v, rfl, hq⟩ := hr'
  dsimp only
  exact wpAny_bind (wpAny_rule (wpAny_pure (wpAny_pure hq)))

/-- abs(x) by the own method -/
theorem abs_own {Q : Value → Shared → Prop} (F : Fr h₀ L s.heap m) (X₀ : K.In h₀) (I : InstAt s.heap x ox C od) (hs : findIn K (.ref C) "__abs__" = some (some (.ref f))) (hf : isFn K (.ref f) = true)
    (h : wpAny (model prog w) A.in1 (call (.ref f) [.ref x]) Q E s) : wpAny (model prog w) A (call (.builtin "abs") [.ref x]) Q E s := by
  refine call_function_entry kind_abs plain_abs entry_abs (args_abs _) ?_
  unfold Builtin.«abs»
  refine wpAny_bind (m := oneArg "abs" _) (wpAny_pure ?_)
  refine wpAny_bind (special_fn (X₀.keeps F.keep) I hs (beq_iff_eq.mp hf) ?_)
  exact wpAny_mono h (fun v s' q => wpAny_pure ⟨v, rfl, q⟩) fun _ _ z => z
end
end PLow

namespace L2
open PySem PySem.Spec PyProof.Rows
section
variable {X : Cx} {CX : CXT} {k : Nat} {C f g : Addr} {fd : FuncData} {ps : List Str} {sp : Sp} {E : XK} {op : Operator}
theorem cmpBack_of {pins : List (Addr × Obj)} {σ : St} {Q : VK} {u : Value} {s' : Shared} (h : EP X pins σ Q u s') : PySem.W.CmpBack (EP X pins σ Q) u s' := by
  obtain ⟨v, H', I, r, q⟩ := id h
  cases v with
  | non => cases (show u = Value.none from r); exact h
  | bl b => cases (show u = Value.bool b from r); exact h
  | int i => obtain ⟨t, e⟩ := (show ∃ t, u = Value.int i t from r); cases e; exact h
  | str x => obtain ⟨t, e⟩ := (show ∃ t, u = Value.str x t from r); cases e; exact h
  | byt b => obtain ⟨t, e⟩ := (show ∃ t, u = Value.bytes b t from r); cases e; exact h
  | flt b => obtain ⟨t, e⟩ := (show ∃ t, u = Value.float b t from r); cases e; exact h
  | ref a => cases (show u = Value.ref a from r); exact h
  | ty n => cases (show u = Value.type n from r); exact h
/-- what of the class an own operator asks: f the method, g the reflected one -/
structure OwnOp (K : PySem.W.Frag) (C f g : Addr) (op : Operator) : Prop where
  first : PySem.W.selfFirst K C = true
  at_ : PySem.W.findIn K (.ref C) (PySem.dunder op.info.2) = some (some (.ref f))
  fn : PySem.W.isFn K (.ref f) = true
  ar : PySem.W.findIn K (.ref C) (dunderR op.info.2) = some (some (.ref g))
  fr : PySem.W.isFn K (.ref g) = true
  sub : PySem.W.subIn K (.type "int") (.ref C) = some false
  sub' : PySem.W.subIn K (.ref C) (.type "int") = some false
/-- x op y, x an instance with the own method, y an instance of the same class -/
theorem op_ownR (O : OwnOp X.K C f g op) (F : FnOk X.prog X.w X.K X.mg X.base CX k f fd ps sp) (hr : Room k X.A) (hb : Binds X.K fd ps []) (hx : Passes CX X E) :
    OpR X (binaryOp op) (fun x y H Q => ∃ a b dx dy fs gs, x = .ref a ∧ y = .ref b ∧ H a = some (.ins C dx fs) ∧ H b = some (.ins C dy gs) ∧ sp [.ref a, .ref b] H Q E) := by
  intro pins s σ H x y v u Q I rx ry h
  obtain ⟨a, b, dx, dy, fs, gs, rfl, rfl, ha, hb', q⟩ := h
  cases rx
  cases ry
  obtain ⟨mA, J, _⟩ := ins_get I.hok ha
  obtain ⟨mB, J', _⟩ := ins_get I.hok hb'
  obtain ⟨od, J, _⟩ := J.look
  obtain ⟨od', J', _⟩ := J'.look
  obtain ⟨m, hF⟩ := I.fr
  refine PySem.W.binop_K hF I.ok.mod.kin J J'.type O.first O.at_ O.fn ?_
  exact wpAny_mono (run_fn (us := [.ref a, .ref b]) (vs := [.ref a, .ref b]) F hr hb .nil hx I (.cons rfl (.cons rfl .nil)) q) (fun _ _ z => cmpBack_of z) fun _ _ z => z
/-- x op i, i an int -/
theorem op_ownI {fo ro : Option Value} (O : OwnOp X.K C f g op) (h1 : PySem.W.findIn X.K (.type "int") (PySem.dunder op.info.2) = some fo) (h2 : PySem.W.findIn X.K (.type "int") (dunderR op.info.2) = some ro)
    (F : FnOk X.prog X.w X.K X.mg X.base CX k f fd ps sp) (hr : Room k X.A) (hb : Binds X.K fd ps []) (hx : Passes CX X E) :
    OpR X (binaryOp op) (fun x y H Q => ∃ a i dx fs, x = .ref a ∧ y = .int i ∧ H a = some (.ins C dx fs) ∧ sp [.ref a, .int i] H Q E) := by
  intro pins s σ H x y v u Q I rx ry h
  obtain ⟨a, i, dx, fs, rfl, rfl, ha, q⟩ := h
  cases rx
  obtain ⟨t, rfl⟩ := ry
  obtain ⟨mA, J, _⟩ := ins_get I.hok ha
  obtain ⟨od, J, _⟩ := J.look
  obtain ⟨m, hF⟩ := I.fr
  refine PySem.W.ksp_binT hF I.ok.mod.kin J rfl O.first O.at_ O.fn O.ar (.inr ⟨_, rfl⟩) h1 h2 O.sub ?_
  exact wpAny_mono (run_fn (us := [.ref a, .int i t]) (vs := [.ref a, .int i]) F hr hb .nil hx I (.cons rfl (.cons ⟨t, rfl⟩ .nil)) q) (fun _ _ z => cmpBack_of z) fun _ _ z => z
/-- i op x, i an int: the reflected method, F of g -/
theorem op_ownL {id : String} {B : Builtin} (O : OwnOp X.K C f g op) (hfT : fillsNumberSlot (.type "int") op.info.2 = pure true)
    (slot : PySem.Slot "int" (PySem.dunder op.info.2) id) (entry : entryFor table id = some B) (args : ∀ i t x, argsOk id ⟨[Value.int i t, .ref x], []⟩)
    (dec : ∀ (i : Int) (t : Tok) (x : Addr) (ox : Obj) (s : Shared), s.heap.get? x = some ox → (∀ v, ox.data ≠ .prim v) → ∀ (A : Around) (E : Value → Shared → Prop) (R : PySem.Fin → Shared → Prop), R (.done (.ret .notImplemented)) s →
      wpAny (model X.prog X.w) A (B ⟨[Value.int i t, .ref x], []⟩) R E s)
    (F : FnOk X.prog X.w X.K X.mg X.base CX k g fd ps sp) (hr : Room k X.A) (hb : Binds X.K fd ps []) (hx : Passes CX X E) :
    OpR X (binaryOp op) (fun x y H Q => ∃ a i dx fs, x = .int i ∧ y = .ref a ∧ H a = some (.ins C dx fs) ∧ sp [.ref a, .int i] H Q E) := by
  intro pins s σ H x y v u Q I rx ry h
  obtain ⟨a, i, dx, fs, rfl, rfl, ha, q⟩ := h
  obtain ⟨t, rfl⟩ := rx
  cases ry
  obtain ⟨mA, J, _⟩ := ins_get I.hok ha
  have ho := J.obj
  obtain ⟨od, J, _⟩ := J.look
  obtain ⟨m, hF⟩ := I.fr
  refine PLow.rbin hF I.ok.mod.kin J O.first O.at_ O.ar O.fr hfT O.sub' slot entry (args _ _ _) (dec i t a _ s ho (fun v z => by simp [PySem.W.instObj] at z)) ?_
  exact wpAny_mono (run_fn (us := [.ref a, .int i t]) (vs := [.ref a, .int i]) F hr hb .nil hx I (.cons rfl (.cons ⟨t, rfl⟩ .nil)) q) (fun _ _ z => cmpBack_of z) fun _ _ z => z
/-- -x -/
theorem un_own (hs : PySem.W.findIn X.K (.ref C) "__neg__" = some (some (.ref f))) (hf : PySem.W.isFn X.K (.ref f) = true) (F : FnOk X.prog X.w X.K X.mg X.base CX k f fd ps sp) (hr : Room k X.A) (hb : Binds X.K fd ps []) (hx : Passes CX X E) :
    UnR X (unaryOp .USub) (fun x H Q => ∃ a dx fs, x = .ref a ∧ H a = some (.ins C dx fs) ∧ sp [.ref a] H Q E) := by
  intro pins s σ H x v Q I rx h
  obtain ⟨a, dx, fs, rfl, ha, q⟩ := h
  cases rx
  obtain ⟨mA, J, _⟩ := ins_get I.hok ha
  obtain ⟨od, J, _⟩ := J.look
  obtain ⟨m, hF⟩ := I.fr
  refine PySem.W.ksp_neg hF I.ok.mod.kin J hs hf ?_
  exact run_fn (us := [.ref a]) (vs := [.ref a]) F hr hb .nil hx I (.cons rfl .nil) q
/-- abs(x) -/
theorem call_absOwn (hs : PySem.W.findIn X.K (.ref C) "__abs__" = some (some (.ref f))) (hf : PySem.W.isFn X.K (.ref f) = true) (F : FnOk X.prog X.w X.K X.mg X.base CX k f fd ps sp) (hr : Room (k + 1) X.A) (hb : Binds X.K fd ps []) (hx : Passes CX X E) :
    CallR X (.builtin "abs") (fun xs H Q => ∃ a dx fs, xs = [.ref a] ∧ H a = some (.ins C dx fs) ∧ sp [.ref a] H Q E) := by
  intro pins s σ H xs us Q I r h
  obtain ⟨a, dx, fs, rfl, ha, q⟩ := h
  cases r with
  | cons r1 r2 =>
    cases r2
    cases r1
    obtain ⟨mA, J, _⟩ := ins_get I.hok ha
    obtain ⟨od, J, _⟩ := J.look
    obtain ⟨m, hF⟩ := I.fr
    refine PLow.abs_own hF I.ok.mod.kin J hs hf ?_
    have hl := F.len _ _ _ _ q
    have r2 : Vals [V.ref a] [Value.ref a] := .cons rfl .nil
    refine wpAny_call (codeAny_mono (F.run X.A.in1 X.stack s H ⟨[.ref a], []⟩ [.ref a] [.ref a] Q E hr.in1 I.env0.in1 (by
      have := hb s [.ref a] I.kIn (by simpa using hl)
      simpa using this) r2 q) fun r s' hq => ?_)
    cases r with
    | error e => exact hx pins σ H s e s' I hq
    | ok fl =>
      cases fl with
      | ret w => exact I.after hq
      | next => exact False.elim hq
      | brk => exact False.elim hq
      | cont => exact False.elim hq
/-- // by any divisor but 0 below 2 ^ 9000 in size -/
def CDivS (_ j : Int) : Prop := j ≠ 0 ∧ j.natAbs.log2 < 9000
theorem op_fdivS : OpR X (binaryOp .FloorDiv) (rI CDivS fun i j => .int (i.fdiv j)) := opI fun i j _ _ _ _ _ hc q =>
  floordiv_int hc.1 q (.inl (PyProof.noPylong_of_log2 hc.2))
end
end L2

set_option maxHeartbeats 2000000
namespace PLow
open PySem PySem.W PySem.Calls PyProof.Rows
section
variable {prog : Program} {w : World} {A : Around} {E : Value → Shared → Prop} {s : Shared} {K : Frag} {x C L f : Addr} {h₀ : Heap} {m : Str → Option Value} {ox : Obj} {od : Option Obj}
/-- bool(x) by the own method -/
theorem bool_own {Q : Value → Shared → Prop} (F : Fr h₀ L s.heap m) (X₀ : K.In h₀) (I : InstAt s.heap x ox C od) (hs : findIn K (.ref C) "__bool__" = some (some (.ref f))) (hf : isFn K (.ref f) = true)
    (h : wpAny (model prog w) A.in1.in1 (call (.ref f) [.ref x]) (PySem.W.BoolBack fun b s' => Q (.bool b) s') E s) : wpAny (model prog w) A (call (.type "bool") [.ref x]) Q E s := by
  refine callType_newIn (S := fun A R s' => s' = s ∧ wpAny (model prog w) A.in1 (call (.ref f) [.ref x]) (PySem.W.BoolBack fun b s' => R (.ok (.ret (.bool b))) s') (fun e s' => R (.error e) s') s) PySem.F.called_bool PySem.F.newNe_bool (PySem.F.typeCall_bool_1 _) (PySem.F.newCall_bool_1 _)
    (fun obj => PySem.F.args_object_init_2 obj _) PySem.F.entry_bool_new ?_ ⟨rfl, ?_⟩
  · rintro A R s' ⟨rfl, hc⟩
    have tr : ∀ {Q' : Bool → Shared → Prop}, wpAny (model prog w) A.in1 (call (.ref f) [.ref x]) (PySem.W.BoolBack Q') (fun e s' => R (.error e) s') s' → wpAny (model prog w) A.in1 (truthy (.ref x)) Q' (fun e s' => R (.error e) s') s' := fun z => truthy_K F X₀ I hs hf z
    have f1 := PySem.F.conv_sub_bool
    refine wpAny_bind (m := isType _) (wpAny_pure ?_)
    dsimp only
    simp only [Bool.not_true, Bool.false_eq_true, if_false]
    refine wpAny_bind (wpAny_of_eq f1 ?_)
    simp only [Bool.not_true, Bool.false_eq_true, if_false]
    refine wpAny_bind (m := someArgs _ _ _ _) (wpAny_pure ?_)
    dsimp only
    refine wpAny_bind (tr (wpAny_mono hc (fun v s' hv => ?_) fun _ _ z => z))
    cases v <;> first | exact hv.elim | skip
    exact wpAny_pure hv
  · refine wpAny_mono h (fun v s' hv => ?_) fun _ _ z => z
    cases v <;> first | exact hv.elim | skip
    exact ⟨rfl, hv⟩
end
end PLow
namespace L2
open PySem PySem.Spec PyProof.Rows
section
variable {X : Cx} {CX : CXT} {k : Nat} {C f : Addr} {fd : FuncData} {ps : List Str} {sp : Sp} {E : XK} {op : CmpOp}
/-- an own comparison -/
structure OwnC (K : PySem.W.Frag) (C f : Addr) (op : CmpOp) : Prop where
  at_ : PySem.W.findIn K (.ref C) (cmpInfo op).2.1 = some (some (.ref f))
  fn : PySem.W.isFn K (.ref f) = true
  sub : PySem.W.subIn K (.type "int") (.ref C) = some false
theorem rich_own (O : OwnC X.K C f op) (F : FnOk X.prog X.w X.K X.mg X.base CX k f fd ps sp) (hr : Room k X.A) (hb : Binds X.K fd ps []) (hx : Passes CX X E) {pins : List (Addr × Obj)} {s : Shared} {σ : St} {H : Hp} {y : V} {u : Value} {Q : VK} {a dx : Addr} {fs : List (Str × V)}
    (I : Inv X pins σ H s) (ha : H a = some (.ins C dx fs)) (ry : RelV y u) (hy : (∃ i, y = .int i) ∨ ∃ b dy gs, y = .ref b ∧ H b = some (.ins C dy gs)) (q : sp [.ref a, y] H Q E) :
    wpAny (model X.prog X.w) X.A (richCompare op (.ref a) u) (EP X pins σ Q) X.xe s := by
  obtain ⟨mA, J, _⟩ := ins_get I.hok ha
  obtain ⟨od, J, _⟩ := J.look
  obtain ⟨m, hF⟩ := I.fr
  have fin : wpAny (model X.prog X.w) X.A (call (.ref f) [.ref a, u]) (PySem.W.CmpBack (EP X pins σ Q)) X.xe s :=
    wpAny_mono (run_fn (us := [.ref a, u]) (vs := [.ref a, y]) F hr hb .nil hx I (.cons rfl (.cons ry .nil)) q) (fun _ _ z => cmpBack_of z) fun _ _ z => z
  rcases hy with ⟨i, rfl⟩ | ⟨b, dy, gs, rfl, hb'⟩
  · obtain ⟨t, rfl⟩ := ry
    refine PySem.W.cmp_K (op := op) (tb := .type "int") hr.units0 hF I.ok.mod.kin J (PySem.W.Looks.of_pure rfl) ?_ O.at_ O.fn fin
    unfold PySem.W.notFirst
    rw [O.sub]
    simp
  · cases ry
    obtain ⟨mB, J', _⟩ := ins_get I.hok hb'
    obtain ⟨od', J', _⟩ := J'.look
    exact PySem.W.cmp_K (op := op) (tb := .ref C) hr.units0 hF I.ok.mod.kin J J'.type (by simp [PySem.W.notFirst]) O.at_ O.fn fin
def rOwnC (C : Addr) (sp : Sp) (E : XK) : R2 := fun x y H Q => ∃ a dx fs, x = .ref a ∧ H a = some (.ins C dx fs) ∧ ((∃ i, y = .int i) ∨ ∃ b dy gs, y = .ref b ∧ H b = some (.ins C dy gs)) ∧ sp [x, y] H Q E
theorem op_ownC (O : OwnC X.K C f op) (F : FnOk X.prog X.w X.K X.mg X.base CX k f fd ps sp) (hr : Room k X.A) (hb : Binds X.K fd ps []) (hx : Passes CX X E) (hc : ∀ v u, compareOp op v u = richCompare op v u := by intro _ _; rfl) : OpR X (compareOp op) (rOwnC C sp E) := by
  intro pins s σ H x y v u Q I rx ry h
  obtain ⟨a, dx, fs, rfl, ha, hy, q⟩ := h
  cases rx
  rw [hc]
  exact rich_own O F hr hb hx I ha ry hy q
/-- a call of a built-in class whose own method answers, two levels in -/
theorem run_in2 {pins : List (Addr × Obj)} {σ : St} {H : Hp} {s : Shared} {Q : VK} {a : Addr} (F : FnOk X.prog X.w X.K X.mg X.base CX k f fd ps sp) (hr : Room (k + 2) X.A) (hb : Binds X.K fd ps []) (hx : Passes CX X E) (I : Inv X pins σ H s) (q : sp [.ref a] H Q E) :
    wpAny (model X.prog X.w) X.A.in1.in1 (call (.ref f) [.ref a]) (EP X pins σ Q) X.xe s := by
  have hl := F.len _ _ _ _ q
  have r2 : Vals [V.ref a] [Value.ref a] := .cons rfl .nil
  refine wpAny_call (codeAny_mono (F.run X.A.in1.in1 X.stack s H ⟨[.ref a], []⟩ [.ref a] [.ref a] Q E hr.in1.in1 I.env0.in1.in1 (by
    have := hb s [.ref a] I.kIn (by simpa using hl)
    simpa using this) r2 q) fun r s' hq => ?_)
  cases r with
  | error e => exact hx pins σ H s e s' I hq
  | ok fl =>
    cases fl with
    | ret w => exact I.after hq
    | next => exact False.elim hq
    | brk => exact False.elim hq
    | cont => exact False.elim hq
/-- bool(x) -/
theorem call_boolOwn (hs : PySem.W.findIn X.K (.ref C) "__bool__" = some (some (.ref f))) (hf : PySem.W.isFn X.K (.ref f) = true) (F : FnOk X.prog X.w X.K X.mg X.base CX k f fd ps sp) (hr : Room (k + 2) X.A) (hb : Binds X.K fd ps []) (hx : Passes CX X E) :
    CallR X (.type "bool") (fun xs H Q => ∃ a dx fs, xs = [.ref a] ∧ H a = some (.ins C dx fs) ∧ sp [.ref a] H (fun v H' => ∃ b, v = .bl b ∧ Q (.bl b) H') E) := by
  intro pins s σ H xs us Q I r h
  obtain ⟨a, dx, fs, rfl, ha, q⟩ := h
  obtain ⟨u, rfl, ru⟩ := vals1 r
  cases ru
  obtain ⟨mA, J, _⟩ := ins_get I.hok ha
  obtain ⟨od, J, _⟩ := J.look
  obtain ⟨m, hF⟩ := I.fr
  refine PLow.bool_own hF I.ok.mod.kin J hs hf (wpAny_mono (run_in2 F hr hb hx I q) (fun u s' z => ?_) fun _ _ z => z)
  obtain ⟨v, H', I', rv, b, rfl, q'⟩ := z
  cases rv
  exact ⟨.bl b, H', I', rfl, q'⟩
/-- str(x) -/
theorem call_strOwn (hs : PySem.W.findIn X.K (.ref C) "__str__" = some (some (.ref f))) (hf : PySem.W.isFn X.K (.ref f) = true) (F : FnOk X.prog X.w X.K X.mg X.base CX k f fd ps sp) (hr : Room (k + 2) X.A) (hb : Binds X.K fd ps []) (hx : Passes CX X E) :
    CallR X (.type "str") (fun xs H Q => ∃ a dx fs, xs = [.ref a] ∧ H a = some (.ins C dx fs) ∧ sp [.ref a] H (fun v H' => ∃ b, v = .str b ∧ Q (.str b) H') E) := by
  intro pins s σ H xs us Q I r h
  obtain ⟨a, dx, fs, rfl, ha, q⟩ := h
  obtain ⟨u, rfl, ru⟩ := vals1 r
  cases ru
  obtain ⟨mA, J, _⟩ := ins_get I.hok ha
  obtain ⟨od, J, _⟩ := J.look
  have hu := hr.units
  refine PySem.W.kso_call (by show X.A.units + 1 + 1 < cLine; omega) I.kIn J hs hf (wpAny_mono (run_in2 F hr hb hx I q) (fun u s' z => ?_) fun _ _ z => z)
  obtain ⟨v, H', I', rv, b, rfl, q'⟩ := z
  obtain ⟨t, rfl⟩ := rv
  exact ⟨.str b, H', I', ⟨t, rfl⟩, q'⟩
end
end L2

set_option maxHeartbeats 8000000
namespace PA
open PySem L2 RZ
open C8 (pss_cut tCut)
open JM (fol Bd JB Cl Wi Rc en LineOk)
structure TxtI (K : PySem.W.Frag) (C : Addr) : Prop where
  q1 : PySem.W.findIn K (.ref C) "__class__" = some (some (.builtin "object.__class__"))
  q2 : PySem.W.specialIn K (.builtin "object.__class__") "__get__" = some (some (.builtin "getset_descriptor.__get__"))
  q3 : PySem.W.takesIn K (.builtin "object.__class__") = some true
  q4 : PySem.W.mroIn K C (.type "object") = some true
  kCC : PySem.W.kitOne K (.ref C) (.ref C) = some true
abbrev NIn : List Str := ["first", "second", "pairs", "_", "two"]
def spIn (C : Addr) : Sp := fun vs H Q _ => ∃ (p q : Addr) (A B : List Ln), vs = [.ref p, .ref q] ∧ SetAt C H p A ∧ SetAt C H q B ∧ LineOk A ∧ LineOk B ∧ A.length ≤ 10 ∧ B.length ≤ 10 ∧
  ∀ (b : Bool) H', Same H H' → (b = true ↔ Wi A B) → Q (.bl b) H'
section
variable {P : Program} {w : World} {K : PySem.W.Frag} {mg : Str → Option Value} {base : Heap} {C Fo g1 g2 : Addr} {gd1 gd2 : FuncData}
theorem scIn : FnScope NIn ["first", "second"] (defScope sIn) := ⟨rfl, rfl, rfl, by decide +kernel, rfl, by decide +kernel, by decide +kernel⟩
theorem ok_in {f : Addr} {fd : FuncData} (F : Fun K "_is_within" "_is_within" sIn f fd) (T : Txt K mg) (TC : TxtC K mg C Fo) (D1 : Df K mg "_following" sFol g1 gd1 ["first", "second", "pair", "at", "either"]) (D2 : Df K mg "joined" sJoin g2 gd2 ["first", "second", "either"]) : FnOk P w K mg base CX0 3 f fd ["first", "second"] (spIn C) := by
  have G : FnOk P w K mg base CX0 2 g2 gd2 ["first", "second", "either"] (spJoin K) := ok_join D2.F T D1
  refine F.ok scIn (fun vs H Q E h => ?_) (fun cdv A0 outer s H vs Q E hr h => ?_)
  · obtain ⟨p, q, _, _, rfl, _⟩ := h
    rfl
  · obtain ⟨p, q, A, B, rfl, ⟨dx, R1, refs1, hp, h1, e1⟩, ⟨dy, R2, refs2, hq, h2, e2⟩, oA, oB, lA, lB, kk⟩ := h
    refine ⟨_, pss_cons (ps_asg (pe_call G hr rfl D2.M D2.F.kp D2.B .nil pass0 (pa_cons (pe_fld (pv 0) rfl) (pa_cons (pe_fld (pv 1) rfl) (pa_cons pe_bl pa_nil)))) (pg_tup rfl (pgs_cons (pg_name (i := 2) scIn.nd rfl (Or.inl rfl)) (pgs_cons (pg_name (i := 3) scIn.nd rfl (Or.inl rfl)) pgs_nil))))
      (pss_one (ps_ret (pe_callB (cr_all rfl) (by rfl) T.all_ boot_all' (pa_cons (pe_lc (own := [("_", 3), ("two", 4)]) (g := gTup K 2 (gCons (gName 3) (gCons (gName 4) gNil))) (tt := tYes) (by rfl) scIn.nd (pi_list (pv 2)) (blkOk_by (N := NIn) (sc := defScope sIn) (by decide +kernel))
          (fun _ _ _ _ _ => pg_tup rfl (pgs_cons (pg_name (i := 3) scIn.nd rfl (Or.inl rfl)) (pgs_cons (pg_name (i := 4) scIn.nd rfl (Or.inl rfl)) pgs_nil))) (fun _ _ _ _ _ => pts_nil)
          (fun _ _ _ _ _ => pe_cmpR op_notN (pv 4) pe_non (nomark _))) pa_nil)))), ?_⟩
    refine ⟨_, rfl, p, C, dx, _, _, rfl, hp, TC.cl, TC.nR, rsf_rows _, _, rfl, q, C, dy, _, _, rfl, hq, TC.cl, TC.nR, rsf_rows _, R1, R2, refs1, refs2, A, B, rfl, h1, e1, h2, e2, oA, oB, lA, lB, fun t Pa Rw prs Pl H1 s1 ht hP eP b cl => ?_⟩
    refine ⟨t, _, rfl, SqT.of ht, rfl, _, _, rfl, _, _, rfl, rfl, ?_⟩
    have few := b.few
    have fAB : (A.length + 1) * (B.length + 1) ≤ 11 * 11 := Nat.mul_le_mul (by omega) (by omega)
    have lpr : prs.length = Pl.length := eP.1
    refine ⟨_, rfl, Pa, rfl, ⟨_, SqL.of hP⟩, fun D hD => ?_⟩
    have eD := new_ (o := .lst []) hD
    refine lc_list (K := K) (a := Pa) (xs := prs) (fun i H' => Same H1 H' ∧ H' D = some (.lst (((Pl.take i).map fun p => p.2.isSome).map V.bl))) ?_ ?_ ?_ ?_
    · exact ⟨eD, upd_same⟩
    · rintro i H' _ ⟨s', _⟩
      exact SqL.of (s' _ _ hP)
    · rintro i x H2 hx ⟨s2, hd⟩
      obtain ⟨c, pr, rfl, hpr, q0⟩ := eP.at_ hx
      have hi : i < Pl.length := (List.getElem?_eq_some_iff.mp hpr).1
      obtain ⟨o1, o2⟩ := pr
      have q0 : H1 c = some (.tup [ev o1, ev o2]) := q0
      refine ⟨c, _, rfl, SqT.of (s2 _ _ q0), rfl, _, _, rfl, _, _, rfl, rfl, rfl, ?_⟩
      dsimp only [tYes]
      rw [if_pos rfl]
      refine ⟨_, rfl, rfl, _, hd, ?_, ?_, ?_⟩
      · rw [List.length_map, List.length_map, List.length_take]
        exact Nat.lt_of_le_of_lt (Nat.min_le_left _ _) (Nat.lt_of_lt_of_le (by omega : i < 122) (by decide))
      · intro d o e
        rw [upd_ne (ne_of_none e hD)]
        exact s2 _ _ e
      · rw [upd_same, List.take_succ, hpr, ev_non]
        have e : (!o2.isNone) = o2.isSome := by cases o2 <;> rfl
        rw [e]
        simp
    rintro H2 ⟨s2, hd⟩
    rw [lpr, List.take_length] at hd
    refine ⟨D, _, rfl, SqL.of hd, ?_⟩
    refine kk _ H2 (s1.trans s2) ?_
    rw [← JM.end_iff b cl, List.all_eq_true]
    refine ⟨fun h p hp z => ?_, fun h x hx => ?_⟩
    · have := h p.2.isSome (List.mem_map.mpr ⟨p, hp, rfl⟩)
      rw [z] at this
      cases this
    · obtain ⟨p, hp, rfl⟩ := List.mem_map.mp hx
      cases hz : p.2 with
      | none => exact absurd hz (h p hp)
      | some v => rfl
def spCmp (C : Addr) (r : Bool → Bool → Bool) : Sp := fun vs H Q _ => ∃ (p q : Addr) (A B : List Ln), vs = [.ref p, .ref q] ∧ SetAt C H p A ∧ SetAt C H q B ∧ LineOk A ∧ LineOk B ∧ A.length ≤ 10 ∧ B.length ≤ 10 ∧
  ∀ (b1 b2 : Bool) H', Same H H' → (b1 = true ↔ Wi A B) → (b2 = true ↔ Wi B A) → Q (.bl (r b1 b2)) H'
theorem b_ex (p : Prop) : ∃ b : Bool, b = true ↔ p := by
  by_cases h : p
  · exact ⟨true, by simp [h]⟩
  · exact ⟨false, by simp [h]⟩
abbrev sEq : Stmt := inClass (top 23) 8
abbrev rEq : Bool → Bool → Bool := fun a b => a && b
theorem scEq : FnScope ["self", "other"] ["self", "other"] (defScope sEq) := ⟨rfl, rfl, rfl, by decide +kernel, rfl, by decide +kernel, by decide +kernel⟩
theorem ok_eq {f g3 : Addr} {fd gd3 : FuncData} (F : Fun K "__eq__" "RowSet.__eq__" sEq f fd) (T : Txt K mg) (TC : TxtC K mg C Fo) (TI : TxtI K C) (D1 : Df K mg "_following" sFol g1 gd1 ["first", "second", "pair", "at", "either"]) (D2 : Df K mg "joined" sJoin g2 gd2 ["first", "second", "either"]) (D3 : Df K mg "_is_within" sIn g3 gd3 ["first", "second"]) :
    FnOk P w K mg base CX0 4 f fd ["self", "other"] (spCmp C rEq) := by
  have G : FnOk P w K mg base CX0 3 g3 gd3 ["first", "second"] (spIn C) := ok_in D3.F T TC D1 D2
  refine F.ok scEq (fun vs H Q E h => ?_) (fun cdv A0 outer s H vs Q E hr h => ?_)
  · obtain ⟨p, q, _, _, rfl, _⟩ := h
    rfl
  · obtain ⟨p, q, A, B, rfl, sA, sB, oA, oB, lA, lB, kk⟩ := h
    refine ⟨_, pss_cons (ps_if (pt_not (pt_val (pe_callB call_isi (by rfl) T.isi boot_isi (pa_cons (pv 1) (pa_cons (pe_glob (v := .ref C) rfl TC.mgC rfl) pa_nil))))) pss_never pss_nil)
      (pss_one (ps_ret (pe_and (pe_call G hr rfl D3.M D3.F.kp D3.B .nil pass0 (pa_cons (pv 0) (pa_cons (pv 1) pa_nil))) (pe_one (pe_call G hr rfl D3.M D3.F.kp D3.B .nil pass0 (pa_cons (pv 1) (pa_cons (pv 0) pa_nil))))))), ?_⟩
    obtain ⟨dy, R2, refs2, hq, _⟩ := id sB
    refine ⟨_, rfl, _, _, _, _, _, rfl, .own C, .base (.ins hq TC.cl TI.q1 TI.q2 TI.q3 TI.q4), TI.kCC, _, rfl, iteF ?_⟩
    refine ⟨_, rfl, _, rfl, p, q, A, B, rfl, sA, sB, oA, oB, lA, lB, fun b1 H1 s1 h1 => ?_⟩
    refine ⟨b1, rfl, ?_⟩
    cases b1 with
    | false =>
      obtain ⟨b2, h2⟩ := b_ex (Wi B A)
      exact iteF (kk false b2 H1 s1 h1 h2)
    | true => exact iteT ⟨_, rfl, _, rfl, q, p, B, A, rfl, sB.same s1, sA.same s1, oB, oA, lB, lA, fun b2 H2 s2 h2 => kk true b2 H2 (s1.trans s2) h1 h2⟩
abbrev sNe : Stmt := inClass (top 23) 9
abbrev rNe : Bool → Bool → Bool := fun a b => !a || !b
theorem scNe : FnScope ["self", "other"] ["self", "other"] (defScope sNe) := ⟨rfl, rfl, rfl, by decide +kernel, rfl, by decide +kernel, by decide +kernel⟩
theorem ok_ne {f g3 : Addr} {fd gd3 : FuncData} (F : Fun K "__ne__" "RowSet.__ne__" sNe f fd) (T : Txt K mg) (TC : TxtC K mg C Fo) (TI : TxtI K C) (D1 : Df K mg "_following" sFol g1 gd1 ["first", "second", "pair", "at", "either"]) (D2 : Df K mg "joined" sJoin g2 gd2 ["first", "second", "either"]) (D3 : Df K mg "_is_within" sIn g3 gd3 ["first", "second"]) :
    FnOk P w K mg base CX0 4 f fd ["self", "other"] (spCmp C rNe) := by
  have G : FnOk P w K mg base CX0 3 g3 gd3 ["first", "second"] (spIn C) := ok_in D3.F T TC D1 D2
  refine F.ok scNe (fun vs H Q E h => ?_) (fun cdv A0 outer s H vs Q E hr h => ?_)
  · obtain ⟨p, q, _, _, rfl, _⟩ := h
    rfl
  · obtain ⟨p, q, A, B, rfl, sA, sB, oA, oB, lA, lB, kk⟩ := h
    refine ⟨_, pss_cons (ps_if (pt_not (pt_val (pe_callB call_isi (by rfl) T.isi boot_isi (pa_cons (pv 1) (pa_cons (pe_glob (v := .ref C) rfl TC.mgC rfl) pa_nil))))) pss_never pss_nil)
      (pss_one (ps_ret (pe_or (pe_not (pe_call G hr rfl D3.M D3.F.kp D3.B .nil pass0 (pa_cons (pv 0) (pa_cons (pv 1) pa_nil)))) (pe_one (pe_not (pe_call G hr rfl D3.M D3.F.kp D3.B .nil pass0 (pa_cons (pv 1) (pa_cons (pv 0) pa_nil)))))))), ?_⟩
    obtain ⟨dy, R2, refs2, hq, _⟩ := id sB
    refine ⟨_, rfl, _, _, _, _, _, rfl, .own C, .base (.ins hq TC.cl TI.q1 TI.q2 TI.q3 TI.q4), TI.kCC, _, rfl, iteF ?_⟩
    refine ⟨_, rfl, _, rfl, p, q, A, B, rfl, sA, sB, oA, oB, lA, lB, fun b1 H1 s1 h1 => ⟨b1, rfl, ?_⟩⟩
    refine ⟨!b1, rfl, ?_⟩
    cases b1 with
    | false =>
      obtain ⟨b2, h2⟩ := b_ex (Wi B A)
      exact iteT (kk false b2 H1 s1 h1 h2)
    | true => exact iteF ⟨_, rfl, _, rfl, q, p, B, A, rfl, sB.same s1, sA.same s1, oB, oA, lB, lA, fun b2 H2 s2 h2 => ⟨b2, rfl, kk true b2 H2 (s1.trans s2) h1 h2⟩⟩
abbrev sLe : Stmt := inClass (top 23) 10
abbrev rLe : Bool → Bool → Bool := fun a _ => a
theorem scLe : FnScope ["self", "other"] ["self", "other"] (defScope sLe) := ⟨rfl, rfl, rfl, by decide +kernel, rfl, by decide +kernel, by decide +kernel⟩
theorem ok_le {f g3 : Addr} {fd gd3 : FuncData} (F : Fun K "__le__" "RowSet.__le__" sLe f fd) (T : Txt K mg) (TC : TxtC K mg C Fo) (TI : TxtI K C) (D1 : Df K mg "_following" sFol g1 gd1 ["first", "second", "pair", "at", "either"]) (D2 : Df K mg "joined" sJoin g2 gd2 ["first", "second", "either"]) (D3 : Df K mg "_is_within" sIn g3 gd3 ["first", "second"]) :
    FnOk P w K mg base CX0 4 f fd ["self", "other"] (spCmp C rLe) := by
  have G : FnOk P w K mg base CX0 3 g3 gd3 ["first", "second"] (spIn C) := ok_in D3.F T TC D1 D2
  refine F.ok scLe (fun vs H Q E h => ?_) (fun cdv A0 outer s H vs Q E hr h => ?_)
  · obtain ⟨p, q, _, _, rfl, _⟩ := h
    rfl
  · obtain ⟨p, q, A, B, rfl, sA, sB, oA, oB, lA, lB, kk⟩ := h
    refine ⟨_, pss_cons (ps_if (pt_not (pt_val (pe_callB call_isi (by rfl) T.isi boot_isi (pa_cons (pv 1) (pa_cons (pe_glob (v := .ref C) rfl TC.mgC rfl) pa_nil))))) pss_never pss_nil)
      (pss_one (ps_ret (pe_call G hr rfl D3.M D3.F.kp D3.B .nil pass0 (pa_cons (pv 0) (pa_cons (pv 1) pa_nil))))), ?_⟩
    obtain ⟨dy, R2, refs2, hq, _⟩ := id sB
    refine ⟨_, rfl, _, _, _, _, _, rfl, .own C, .base (.ins hq TC.cl TI.q1 TI.q2 TI.q3 TI.q4), TI.kCC, _, rfl, iteF ?_⟩
    refine ⟨_, rfl, _, rfl, p, q, A, B, rfl, sA, sB, oA, oB, lA, lB, fun b1 H1 s1 h1 => ?_⟩
    obtain ⟨b2, h2⟩ := b_ex (Wi B A)
    exact kk b1 b2 H1 s1 h1 h2
abbrev sGe : Stmt := inClass (top 23) 11
abbrev rGe : Bool → Bool → Bool := fun _ b => b
theorem scGe : FnScope ["self", "other"] ["self", "other"] (defScope sGe) := ⟨rfl, rfl, rfl, by decide +kernel, rfl, by decide +kernel, by decide +kernel⟩
theorem ok_ge {f g3 : Addr} {fd gd3 : FuncData} (F : Fun K "__ge__" "RowSet.__ge__" sGe f fd) (T : Txt K mg) (TC : TxtC K mg C Fo) (TI : TxtI K C) (D1 : Df K mg "_following" sFol g1 gd1 ["first", "second", "pair", "at", "either"]) (D2 : Df K mg "joined" sJoin g2 gd2 ["first", "second", "either"]) (D3 : Df K mg "_is_within" sIn g3 gd3 ["first", "second"]) :
    FnOk P w K mg base CX0 4 f fd ["self", "other"] (spCmp C rGe) := by
  have G : FnOk P w K mg base CX0 3 g3 gd3 ["first", "second"] (spIn C) := ok_in D3.F T TC D1 D2
  refine F.ok scGe (fun vs H Q E h => ?_) (fun cdv A0 outer s H vs Q E hr h => ?_)
  · obtain ⟨p, q, _, _, rfl, _⟩ := h
    rfl
  · obtain ⟨p, q, A, B, rfl, sA, sB, oA, oB, lA, lB, kk⟩ := h
    refine ⟨_, pss_cons (ps_if (pt_not (pt_val (pe_callB call_isi (by rfl) T.isi boot_isi (pa_cons (pv 1) (pa_cons (pe_glob (v := .ref C) rfl TC.mgC rfl) pa_nil))))) pss_never pss_nil)
      (pss_one (ps_ret (pe_call G hr rfl D3.M D3.F.kp D3.B .nil pass0 (pa_cons (pv 1) (pa_cons (pv 0) pa_nil))))), ?_⟩
    obtain ⟨dy, R2, refs2, hq, _⟩ := id sB
    refine ⟨_, rfl, _, _, _, _, _, rfl, .own C, .base (.ins hq TC.cl TI.q1 TI.q2 TI.q3 TI.q4), TI.kCC, _, rfl, iteF ?_⟩
    refine ⟨_, rfl, _, rfl, q, p, B, A, rfl, sB, sA, oB, oA, lB, lA, fun b2 H1 s1 h2 => ?_⟩
    obtain ⟨b1, h1⟩ := b_ex (Wi A B)
    exact kk b1 b2 H1 s1 h1 h2
abbrev sLt : Stmt := inClass (top 23) 12
abbrev rLt : Bool → Bool → Bool := fun a b => a && !b
theorem scLt : FnScope ["self", "other"] ["self", "other"] (defScope sLt) := ⟨rfl, rfl, rfl, by decide +kernel, rfl, by decide +kernel, by decide +kernel⟩
theorem ok_lt {f g3 : Addr} {fd gd3 : FuncData} (F : Fun K "__lt__" "RowSet.__lt__" sLt f fd) (T : Txt K mg) (TC : TxtC K mg C Fo) (TI : TxtI K C) (D1 : Df K mg "_following" sFol g1 gd1 ["first", "second", "pair", "at", "either"]) (D2 : Df K mg "joined" sJoin g2 gd2 ["first", "second", "either"]) (D3 : Df K mg "_is_within" sIn g3 gd3 ["first", "second"]) :
    FnOk P w K mg base CX0 4 f fd ["self", "other"] (spCmp C rLt) := by
  have G : FnOk P w K mg base CX0 3 g3 gd3 ["first", "second"] (spIn C) := ok_in D3.F T TC D1 D2
  refine F.ok scLt (fun vs H Q E h => ?_) (fun cdv A0 outer s H vs Q E hr h => ?_)
  · obtain ⟨p, q, _, _, rfl, _⟩ := h
    rfl
  · obtain ⟨p, q, A, B, rfl, sA, sB, oA, oB, lA, lB, kk⟩ := h
    refine ⟨_, pss_cons (ps_if (pt_not (pt_val (pe_callB call_isi (by rfl) T.isi boot_isi (pa_cons (pv 1) (pa_cons (pe_glob (v := .ref C) rfl TC.mgC rfl) pa_nil))))) pss_never pss_nil)
      (pss_one (ps_ret (pe_and (pe_call G hr rfl D3.M D3.F.kp D3.B .nil pass0 (pa_cons (pv 0) (pa_cons (pv 1) pa_nil))) (pe_one (pe_not (pe_call G hr rfl D3.M D3.F.kp D3.B .nil pass0 (pa_cons (pv 1) (pa_cons (pv 0) pa_nil)))))))), ?_⟩
    obtain ⟨dy, R2, refs2, hq, _⟩ := id sB
    refine ⟨_, rfl, _, _, _, _, _, rfl, .own C, .base (.ins hq TC.cl TI.q1 TI.q2 TI.q3 TI.q4), TI.kCC, _, rfl, iteF ?_⟩
    refine ⟨_, rfl, _, rfl, p, q, A, B, rfl, sA, sB, oA, oB, lA, lB, fun b1 H1 s1 h1 => ?_⟩
    refine ⟨b1, rfl, ?_⟩
    cases b1 with
    | false =>
      obtain ⟨b2, h2⟩ := b_ex (Wi B A)
      exact iteF (kk false b2 H1 s1 h1 h2)
    | true => exact iteT ⟨_, rfl, _, rfl, q, p, B, A, rfl, sB.same s1, sA.same s1, oB, oA, lB, lA, fun b2 H2 s2 h2 => ⟨b2, rfl, kk true b2 H2 (s1.trans s2) h1 h2⟩⟩
abbrev sGt : Stmt := inClass (top 23) 13
abbrev rGt : Bool → Bool → Bool := fun a b => b && !a
theorem scGt : FnScope ["self", "other"] ["self", "other"] (defScope sGt) := ⟨rfl, rfl, rfl, by decide +kernel, rfl, by decide +kernel, by decide +kernel⟩
theorem ok_gt {f g3 : Addr} {fd gd3 : FuncData} (F : Fun K "__gt__" "RowSet.__gt__" sGt f fd) (T : Txt K mg) (TC : TxtC K mg C Fo) (TI : TxtI K C) (D1 : Df K mg "_following" sFol g1 gd1 ["first", "second", "pair", "at", "either"]) (D2 : Df K mg "joined" sJoin g2 gd2 ["first", "second", "either"]) (D3 : Df K mg "_is_within" sIn g3 gd3 ["first", "second"]) :
    FnOk P w K mg base CX0 4 f fd ["self", "other"] (spCmp C rGt) := by
  have G : FnOk P w K mg base CX0 3 g3 gd3 ["first", "second"] (spIn C) := ok_in D3.F T TC D1 D2
  refine F.ok scGt (fun vs H Q E h => ?_) (fun cdv A0 outer s H vs Q E hr h => ?_)
  · obtain ⟨p, q, _, _, rfl, _⟩ := h
    rfl
  · obtain ⟨p, q, A, B, rfl, sA, sB, oA, oB, lA, lB, kk⟩ := h
    refine ⟨_, pss_cons (ps_if (pt_not (pt_val (pe_callB call_isi (by rfl) T.isi boot_isi (pa_cons (pv 1) (pa_cons (pe_glob (v := .ref C) rfl TC.mgC rfl) pa_nil))))) pss_never pss_nil)
      (pss_one (ps_ret (pe_and (pe_call G hr rfl D3.M D3.F.kp D3.B .nil pass0 (pa_cons (pv 1) (pa_cons (pv 0) pa_nil))) (pe_one (pe_not (pe_call G hr rfl D3.M D3.F.kp D3.B .nil pass0 (pa_cons (pv 0) (pa_cons (pv 1) pa_nil)))))))), ?_⟩
    obtain ⟨dy, R2, refs2, hq, _⟩ := id sB
    refine ⟨_, rfl, _, _, _, _, _, rfl, .own C, .base (.ins hq TC.cl TI.q1 TI.q2 TI.q3 TI.q4), TI.kCC, _, rfl, iteF ?_⟩
    refine ⟨_, rfl, _, rfl, q, p, B, A, rfl, sB, sA, oB, oA, lB, lA, fun b2 H1 s1 h2 => ?_⟩
    refine ⟨b2, rfl, ?_⟩
    cases b2 with
    | false =>
      obtain ⟨b1, h1⟩ := b_ex (Wi A B)
      exact iteF (kk b1 false H1 s1 h1 h2)
    | true => exact iteT ⟨_, rfl, _, rfl, p, q, A, B, rfl, sA.same s1, sB.same s1, oA, oB, lA, lB, fun b1 H2 s2 h1 => ⟨b1, rfl, kk b1 true H2 (s1.trans s2) h1 h2⟩⟩
end
end PA

set_option maxHeartbeats 8000000
namespace PA
open PySem L2 RZ
open C8 (pss_cut tCut)
open JM (Wi Rc en LineOk WB WC)
abbrev NWith : List Str := ["_law_one", "_law_other", "_law_waiting", "_law_seen", "_law_at", "_law_left", "_law_right", "_law_way", "_law_low", "_law_high"]
abbrev lw (p : Nat × Nat) : Ln := (some p.1, some p.2)
abbrev isW : Hp → Addr → Nat × Nat → Prop := TupOf fun p => lv (lw p)
theorem lw_inj {p q : Nat × Nat} (h : lk (lw p) = lk (lw q)) : p = q := by
  have := lk_inj h
  obtain ⟨a, b⟩ := p
  obtain ⟨c, d⟩ := q
  simp only [lw, Prod.mk.injEq, Option.some.injEq] at this
  rw [this.1, this.2]
structure WS (P : Program) (w : World) (H H' : Hp) (Wa D : Addr) (Wl Sn : List (Nat × Nat)) (wls : List V) (kvs : List DE) : Prop where
  sm : Same H H'
  hW : H' Wa = some (.lst wls)
  eW : Ea H' isW wls Wl
  hD : H' D = some (DX P w D kvs)
  ka : ∀ p ∈ kvs, KeyAt H' p.2.1 p.1
  em : (kvs.map fun p => (p.1, p.2.2)).map (·.1) = Sn.map fun p => lk (lw p)
section
variable {P : Program} {w : World} {H H' H2 : Hp} {Wa D : Addr} {Wl Sn : List (Nat × Nat)} {wls : List V} {kvs : List DE}
theorem WS.same (I : WS P w H H' Wa D Wl Sn wls kvs) (s : Same H' H2) : WS P w H H2 Wa D Wl Sn wls kvs :=
  ⟨I.sm.trans s, s _ _ I.hW, I.eW.same s, s _ _ I.hD, fun p hp => (I.ka p hp).kt fun b ys e => s _ _ e, I.em⟩
theorem WS.has (I : WS P w H H' Wa D Wl Sn wls kvs) (q : Nat × Nat) : (valV (kvs.map fun p => (p.1, p.2.2)) (lk (lw q))).isSome = decide (q ∈ Sn) := by
  rw [val_keys, I.em, Bool.eq_iff_iff, decide_eq_true_iff, decide_eq_true_iff]
  refine ⟨fun h => ?_, fun h => List.mem_map.mpr ⟨q, h, rfl⟩⟩
  obtain ⟨p, hp, e⟩ := List.mem_map.mp h
  rw [← lw_inj e]
  exact hp
theorem WS.lenK (I : WS P w H H' Wa D Wl Sn wls kvs) : kvs.length = Sn.length := by
  have := congrArg List.length I.em
  rwa [List.length_map, List.length_map, List.length_map] at this
theorem WS.no (I : WS P w H H' Wa D Wl Sn wls kvs) {q : Nat × Nat} (h : q ∉ Sn) : valV (kvs.map fun p => (p.1, p.2.2)) (lk (lw q)) = none := by
  have := I.has q
  rw [decide_eq_false h] at this
  cases hv : valV (kvs.map fun p => (p.1, p.2.2)) (lk (lw q)) with
  | none => rfl
  | some v => rw [hv] at this; cases this
theorem WS.tkD (I : WS P w H H' Wa D Wl Sn wls kvs) {o : HO} {c : Addr} {ys : List V} (e : H' c = some (.tup ys)) : (upd H' D o) c = some (.tup ys) := by
  rw [upd_ne (ne_of e I.hD (by intro z; cases z))]
  exact e
theorem WS.tkW (I : WS P w H H' Wa D Wl Sn wls kvs) {o : HO} {c : Addr} {ys : List V} (e : H' c = some (.tup ys)) : (upd H' Wa o) c = some (.tup ys) := by
  rw [upd_ne (ne_of e I.hW (by intro z; cases z))]
  exact e
theorem WS.seen (I : WS P w H H' Wa D Wl Sn wls kvs) (nD : H D = none) {q : Nat × Nat} {t : Addr} {v : V} (ht : isLn H' t (lw q)) : WS P w H (upd H' D (DX P w D (kvs ++ [(lk (lw q), t, v)]))) Wa D Wl (Sn ++ [q]) wls (kvs ++ [(lk (lw q), t, v)]) := by
  refine ⟨fun c o e => ?_, ?_, I.eW.imp fun c r q => I.tkD q, upd_same, fun p hp => ?_, ?_⟩
  · rw [upd_ne (ne_of_none e nD)]
    exact I.sm _ _ e
  · rw [upd_ne (ne_of I.hW I.hD (by intro z; cases z))]
    exact I.hW
  · rcases List.mem_append.mp hp with hp | hp
    · exact (I.ka p hp).kt fun c ys e => I.tkD e
    · cases List.mem_singleton.mp hp
      exact (isLn.key ht).kt fun c ys e => I.tkD e
  · rw [List.map_append, List.map_append, I.em, List.map_append]
    rfl
theorem WS.app (I : WS P w H H' Wa D Wl Sn wls kvs) (nW : H Wa = none) {q : Nat × Nat} {t : Addr} (ht : isW H' t q) : WS P w H (upd H' Wa (.lst (wls ++ [.ref t]))) Wa D (Wl ++ [q]) Sn (wls ++ [.ref t]) kvs := by
  refine ⟨fun c o e => ?_, upd_same, Ea.push (I.eW.imp fun c r q => I.tkW q) (I.tkW ht), ?_, fun p hp => (I.ka p hp).kt fun c ys e => I.tkW e, I.em⟩
  · rw [upd_ne (ne_of_none e nW)]
    exact I.sm _ _ e
  · rw [upd_ne (ne_of I.hW I.hD (by intro z; cases z)).symm]
    exact I.hD
end
def spWith : Sp := fun vs H Q _ => ∃ (L1 L2 : Addr) (refs1 refs2 : List V) (A B : List Ln), vs = [.ref L1, .ref L2] ∧ H L1 = some (.lst refs1) ∧ Ea H isLn refs1 A ∧ H L2 = some (.lst refs2) ∧ Ea H isLn refs2 B ∧ LineOk A ∧ LineOk B ∧ A.length ≤ 10 ∧ B.length ≤ 10 ∧
  ∀ (b : Bool) H', Same H H' → (b = true ↔ Wi A B) → Q (.bl b) H'
theorem rd_ln {H : Hp} {L : Addr} {refs : List V} {A : List Ln} {i : Nat} (hE : Ea H isLn refs A) (hi : i < A.length) (c : Bool) : ∃ r l, atI refs (i : Int) = some (.ref r) ∧ H r = some (.tup (lv l)) ∧ en A i c = JM.sd l c := by
  obtain ⟨r, hr, q⟩ := hE.get (List.getElem?_eq_getElem hi)
  refine ⟨r, A[i], ?_, q, JM.en_at (List.getElem?_eq_getElem hi)⟩
  unfold atI
  rw [Evl.ixN_nat (List.getElem?_eq_some_iff.mp hr).1]
  exact hr
section
variable {P : Program} {w : World} {K : PySem.W.Frag} {mg : Str → Option Value} {base : Heap} {C : Addr}
theorem scWith : FnScope NWith ["_law_one", "_law_other"] (defScope sWithin) := ⟨rfl, rfl, rfl, by decide +kernel, rfl, by decide +kernel, by decide +kernel⟩
theorem ok_with {f : Addr} {fd : FuncData} (F : Fun K "_law_m_within" "_law_m_within" sWithin f fd) (T : Txt K mg) : FnOk P w K mg base CX0 1 f fd ["_law_one", "_law_other"] spWith := by
  refine F.ok scWith (fun vs H Q E h => ?_) (fun cdv A0 outer s H vs Q E hr h => ?_)
  · obtain ⟨L1, L2, _, _, _, _, rfl, _⟩ := h
    rfl
  · obtain ⟨L1, L2, refs1, refs2, A, B, rfl, h1, e1, h2, e2, oA, oB, lA, lB, kk⟩ := h
    have hu := u1 hr.units
    refine ⟨_, pss_cons (ps_par3 (i := 2) (j := 3) (l := 4) (by rfl) scWith.nd rfl rfl rfl (by decide) (by decide) (by decide) rfl rfl rfl (pa_cons (pe_lst (pa_cons (pe_tup (pa_cons pe_int (pa_cons pe_int pa_nil))) pa_nil)) (pa_cons pe_dnewX (pa_cons pe_int pa_nil))) (by rfl))
      (pss_cons (ps_while PassesOwn.never (pt_cmpR op_lt (pv 4) (pe_callB call_len_seq (by rfl) T.len_ PySem.boot_len (pa_cons (pv 2) pa_nil)) (nomark _))
        (pss_cons (ps_asg (pe_ix ix_list (pv 2) (pv 4) (fun _ _ => rfl)) (pg_tup rfl (pgs_cons (pg_name (i := 5) scWith.nd rfl (Or.inl rfl)) (pgs_cons (pg_name (i := 6) scWith.nd rfl (Or.inl rfl)) pgs_nil))))
        (pss_cons (ps_for PassesOwn.never rfl (pi_tup (pe_tup (pa_cons pe_int (pa_cons pe_int pa_nil)))) (pg_name (i := 7) scWith.nd rfl (Or.inl rfl))
          (pss_cons (ps_par (i := 8) (j := 9) (by rfl) scWith.nd rfl rfl (by decide) rfl rfl (pa_cons (pe_ix ix_tup (pe_ix ix_list (pv 0) (pv 5) (fun _ _ => rfl)) (pv 7) (fun _ _ => rfl)) (pa_cons (pe_ix ix_tup (pe_ix ix_list (pv 1) (pv 6) (fun _ _ => rfl)) (pv 7) (fun _ _ => rfl)) pa_nil)) (by rfl))
          (pss_cons (ps_if (PW.pt (pw_and (pt_cmpR op_notN (pv 8) pe_non (nomark _)) (pw_and1 (pt_cmpR op_isN (pv 9) pe_non (nomark _))))) (pss_one (ps_ret pe_bl)) pss_nil)
          (pss_one (ps_if (PW.pt (pw_and (pt_cmpR op_notN (pv 8) pe_non (nomark _)) (pw_and1 (pt_cmpR (op_notIn_dx hu) (pe_tup (pa_cons (pv 8) (pa_cons (pv 9) pa_nil))) (pv 3) rfl))))
            (pss_cons (ps_asg pe_bl (pg_sub (pv 3) (pe_tup (pa_cons (pv 8) (pa_cons (pv 9) pa_nil))) (set_dx hu)))
            (pss_one (ps_expr (pe_bm PySem.F.plainAttrs_list PySem.F.slot_list_append PySem.F.type_list_append mt_append (pv 2) (pa_cons (pe_tup (pa_cons (pv 8) (pa_cons (pv 9) pa_nil))) pa_nil))))) pss_nil)))))
        (pss_one (ps_set (i := 4) scWith.nd rfl (Or.inl rfl) (pe_op op_add (pv 4) pe_int))))))
      (pss_one (ps_ret pe_bl))), ?_⟩
    refine ⟨by show 2 ≤ sizeLine; decide, fun t0 ht0 => ⟨by show 1 ≤ sizeLine; decide, fun Wa hWa => ?_⟩⟩
    have f0 := new_ (o := .tup [V.int 0, .int 0]) ht0
    have g0 : isW (upd H t0 (.tup [V.int 0, .int 0])) t0 (0, 0) := upd_same
    generalize (upd H t0 (.tup [V.int 0, .int 0])) = Ha at f0 g0 hWa ⊢
    have nW : H Wa = none := Same.none f0 hWa
    have f1 := f0.trans (new_ (o := .lst [.ref t0]) hWa)
    have g1 : isW (upd Ha Wa (.lst [.ref t0])) t0 (0, 0) := new_ hWa _ _ g0
    have gW : (upd Ha Wa (.lst [.ref t0])) Wa = some (.lst [.ref t0]) := upd_same
    generalize (upd Ha Wa (.lst [.ref t0])) = Hb at f1 g1 gW ⊢
    intro D hD
    have nD : H D = none := Same.none f1 hD
    have eD := new_ (o := DX P w D []) hD
    have I0 : WS P w H (upd Hb D (DX P w D [])) Wa D [(0, 0)] [] [.ref t0] [] := ⟨f1.trans eD, eD _ _ gW, Ea.one (eD _ _ g1), upd_same, fun p hp => (List.not_mem_nil hp).elim, rfl⟩
    refine ⟨_, _, _, rfl, ?_⟩
    refine ⟨fun m σ' H' => ∃ (Wl Sn : List (Nat × Nat)) (wls : List V) (kvs : List DE) (d : Nat) (x5 x6 x7 x8 x9 : Option V), σ' = [some (.ref L1), some (.ref L2), some (.ref Wa), some (.ref D), some (.int ((d : Nat) : Int)), x5, x6, x7, x8, x9] ∧ WS P w H H' Wa D Wl Sn wls kvs ∧ WB A B Wl Sn ∧ WC A B Wl Sn d ∧ d ≤ Wl.length ∧ d + m = 102, ⟨102, _, _, _, _, 0, none, none, none, none, none, rfl, I0, .init, fun k p c i hk => absurd hk (Nat.not_lt_zero _), Nat.zero_le _, rfl⟩, ?_⟩
    clear I0 eD hD g1 gW f1 f0 g0 hWa ht0
    rintro m _ H3 ⟨Wl, Sn, wls, kvs, d, x5, x6, x7, x8, x9, rfl, I, b, wc, hd, hm⟩
    have few := b.few oA oB
    have fAB : A.length * B.length ≤ 10 * 10 := Nat.mul_le_mul lA lB
    have lwl : wls.length = Wl.length := I.eW.1
    have bl := b.len
    refine ⟨_, rfl, _, rfl, Wa, _, rfl, .inl (SqL.of I.hW), _, _, rfl, rfl, _, rfl, ifD_2 (fun hlt => ?_) (fun hge => ?_)⟩
    rotate_left
    · have hend : d = Wl.length := by omega
      exact kk true H3 I.sm ⟨fun _ => JM.wend b (hend ▸ wc), fun _ => rfl⟩
    have hlt' : d < Wl.length := by omega
    refine ⟨fun σ' H' => ∃ m', m' < m ∧ ∃ (Wl Sn : List (Nat × Nat)) (wls : List V) (kvs : List DE) (d : Nat) (x5 x6 x7 x8 x9 : Option V), σ' = [some (.ref L1), some (.ref L2), some (.ref Wa), some (.ref D), some (.int ((d : Nat) : Int)), x5, x6, x7, x8, x9] ∧ WS P w H H' Wa D Wl Sn wls kvs ∧ WB A B Wl Sn ∧ WC A B Wl Sn d ∧ d ≤ Wl.length ∧ d + m' = 102, fun _ _ h => h, ?_⟩
    have hpl : Wl[d]? = some Wl[d] := List.getElem?_eq_getElem hlt'
    have hpm : Wl[d] ∈ Wl := List.getElem_mem hlt'
    generalize Wl[d] = p at hpl hpm
    obtain ⟨c, hc, hcl⟩ := I.eW.get hpl
    have hrc := b.rc p hpm
    obtain ⟨bA, bB⟩ := JM.rc_bd oA oB hrc
    obtain ⟨pi, pj⟩ := p
    have hcl : H3 c = some (.tup [V.int ((pi : Nat) : Int), .int ((pj : Nat) : Int)]) := hcl
    dsimp only at hrc bA bB
    have hat : atI wls ((d : Nat) : Int) = some (.ref c) := by
      unfold atI
      rw [Evl.ixN_nat (List.getElem?_eq_some_iff.mp hc).1]
      exact hc
    refine ⟨_, rfl, _, rfl, Wa, wls, ((d : Nat) : Int), .ref c, rfl, rfl, SqL.of I.hW, hat, ?_⟩
    refine ⟨c, _, rfl, SqT.of hcl, rfl, _, _, rfl, _, _, rfl, rfl, ?_⟩
    refine ⟨by show 2 ≤ sizeLine; decide, fun tp htp => ⟨tp, rfl, ⟨_, SqT.of upd_same⟩, ?_⟩⟩
    have etp := new_ (o := .tup [V.int 0, .int 1]) htp
    have gtp : (upd H3 tp (.tup [V.int 0, .int 1])) tp = some (.tup [V.int 0, .int 1]) := upd_same
    have I4 := I.same etp
    clear I hcl htp hat hc
    generalize (upd H3 tp (.tup [V.int 0, .int 1])) = H4 at gtp I4 ⊢
    clear etp
    refine for_tup (K := K) (a := tp) (xs := [V.int 0, .int 1]) (fun i σ' H' => ∃ (X : List (Nat × Nat)) (wls : List V) (kvs : List DE) (x7 x8 x9 : Option V), σ' = [some (.ref L1), some (.ref L2), some (.ref Wa), some (.ref D), some (.int ((d : Nat) : Int)), some (.int ((pi : Nat) : Int)), some (.int ((pj : Nat) : Int)), x7, x8, x9] ∧ WS P w H H' Wa D (Wl ++ X) (Sn ++ X) wls kvs ∧ WB A B (Wl ++ X) (Sn ++ X) ∧ H' tp = some (.tup [V.int 0, .int 1]) ∧
      (1 ≤ i → ∀ a, en A pi false = some a → ∃ j, en B pj false = some j ∧ (a, j) ∈ Sn ++ X) ∧ (2 ≤ i → ∀ a, en A pi true = some a → ∃ j, en B pj true = some j ∧ (a, j) ∈ Sn ++ X)) ?_ ?_ ?_ ?_
    · exact ⟨[], wls, kvs, _, _, _, rfl, by rw [List.append_nil, List.append_nil]; exact I4, by rw [List.append_nil, List.append_nil]; exact b, gtp, fun z => absurd z (by decide), fun z => absurd z (by decide)⟩
    · rintro i σ' H' _ ⟨_, _, _, _, _, _, _, _, _, hF', _⟩
      exact SqT.of hF'
    · rintro i x _ H6 hx ⟨X, wls, kvs, x7, x8, x9, rfl, I6, b6, gtp6, o0, o1⟩
      obtain ⟨bi, rfl, hcase⟩ : ∃ bi, x = bV bi ∧ ((i = 0 ∧ bi = false) ∨ (i = 1 ∧ bi = true)) := by
        match i, hx with
        | 0, hx => cases hx; exact ⟨false, rfl, .inl ⟨rfl, rfl⟩⟩
        | 1, hx => cases hx; exact ⟨true, rfl, .inr ⟨rfl, rfl⟩⟩
        | (i + 2), hx => simp at hx
      have close : ∀ (X' : List (Nat × Nat)), (∀ r, r ∈ Sn ++ X → r ∈ Sn ++ X') → (∀ a, en A pi bi = some a → ∃ j, en B pj bi = some j ∧ (a, j) ∈ Sn ++ X') → (1 ≤ i + 1 → ∀ a, en A pi false = some a → ∃ j, en B pj false = some j ∧ (a, j) ∈ Sn ++ X') ∧ (2 ≤ i + 1 → ∀ a, en A pi true = some a → ∃ j, en B pj true = some j ∧ (a, j) ∈ Sn ++ X') := by
        intro X' mono hq
        rcases hcase with ⟨rfl, rfl⟩ | ⟨rfl, rfl⟩
        · exact ⟨fun _ => hq, fun z => absurd z (by decide)⟩
        · exact ⟨fun _ a e => let ⟨j, g1, g2⟩ := o0 (by decide) a e; ⟨j, g1, mono _ g2⟩, fun _ => hq⟩
      clear hcase
      have few6 := b6.few oA oB
      have bl6 := b6.len
      have lwl6 : wls.length = (Wl ++ X).length := I6.eW.1
      obtain ⟨r1, l1, a1, a2, a3⟩ := rd_ln (L := L1) (e1.same I6.sm) bA bi
      obtain ⟨r2, l2, c1, c2, c3⟩ := rd_ln (L := L2) (e2.same I6.sm) bB bi
      refine ⟨_, rfl, _, rfl, L1, refs1, ((pi : Nat) : Int), .ref r1, rfl, rfl, SqL.of (I6.sm _ _ h1), a1, _, rfl, r1, _, _, ev (en A pi bi), rfl, rfl, SqT.of a2, by rw [a3]; exact at_ln bi, ?_⟩
      refine ⟨_, rfl, _, rfl, L2, refs2, ((pj : Nat) : Int), .ref r2, rfl, rfl, SqL.of (I6.sm _ _ h2), c1, _, rfl, r2, _, _, ev (en B pj bi), rfl, rfl, SqT.of c2, by rw [c3]; exact at_ln bi, _, _, rfl, ?_⟩
      refine ⟨_, rfl, rfl, _, rfl, ?_⟩
      rw [ev_non]
      cases ha : en A pi bi with
      | none =>
        refine iteF ?_
        refine ⟨_, rfl, rfl, _, rfl, ?_⟩
        rw [ev_non]
        exact iteF ⟨X, wls, kvs, _, _, _, rfl, I6, b6, gtp6, close X (fun r h => h) (fun a e => by rw [ha] at e; cases e)⟩
      | some a =>
        refine iteT ⟨_, rfl, rfl, _, rfl, ?_⟩
        rw [ev_non]
        cases hb : en B pj bi with
        | none =>
          refine iteT (kk false H6 I6.sm ⟨fun z => Bool.noConfusion z, fun wi => absurd hb (wi pi pj bi hrc (by rw [ha]; intro z; cases z))⟩)
        | some j =>
          refine iteF ⟨_, rfl, rfl, _, rfl, ?_⟩
          rw [ev_non]
          refine iteT ⟨_, rfl, _, rfl, by show 2 ≤ sizeLine; decide, fun k1 hk1 => ?_⟩
          have ek1 := new_ (o := .tup [ev (some a), ev (some j)]) hk1
          have gk1 : isLn (upd H6 k1 (.tup [ev (some a), ev (some j)])) k1 (lw (a, j)) := upd_same
          have I7 := I6.same ek1
          have gtp7 := ek1 _ _ gtp6
          generalize (upd H6 k1 (.tup [ev (some a), ev (some j)])) = H7 at gk1 I7 gtp7 ⊢
          refine ⟨_, rfl, D, k1, _, lk (lw (a, j)), rfl, rfl, ⟨kvs, I7.hD, rfl, I7.ka⟩, isLn.key gk1, _, rfl, ?_⟩
          rw [I7.has]
          by_cases hin : (a, j) ∈ Sn ++ X
          · rw [decide_eq_true hin]
            exact iteF ⟨X, wls, kvs, _, _, _, rfl, I7, b6, gtp7, close X (fun r h => h) (fun a' e => by rw [ha] at e; cases e; exact ⟨j, hb, hin⟩)⟩
          rw [decide_eq_false hin]
          refine iteT ⟨_, rfl, _, rfl, _, rfl, by show 2 ≤ sizeLine; decide, fun k2 hk2 => ?_⟩
          have ek2 := new_ (o := .tup [ev (some a), ev (some j)]) hk2
          have gk2 : isLn (upd H7 k2 (.tup [ev (some a), ev (some j)])) k2 (lw (a, j)) := upd_same
          have I8 := I7.same ek2
          have gtp8 := ek2 _ _ gtp7
          generalize (upd H7 k2 (.tup [ev (some a), ev (some j)])) = H8 at gk2 I8 gtp8 ⊢
          refine ⟨D, k2, kvs, lk (lw (a, j)), rfl, rfl, I8.hD, I8.ka, isLn.key gk2, I8.no hin, ?_, ?_⟩
          · rw [I8.lenK]
            exact Nat.lt_of_le_of_lt (Nat.le_trans few6 fAB) (by decide)
          have I9 := I8.seen nD (v := V.bl true) gk2
          have gtp9 := I8.tkD (o := DX P w D (kvs ++ [(lk (lw (a, j)), k2, V.bl true)])) gtp8
          refine ⟨_, rfl, .inl ⟨rfl, _, SqL.of I9.hW⟩, ?_⟩
          refine ⟨_, rfl, _, rfl, by show 2 ≤ sizeLine; decide, fun k3 hk3 => ?_⟩
          have ek3 := new_ (o := .tup [ev (some a), ev (some j)]) hk3
          have gk3 : isW (upd (upd H8 D (DX P w D (kvs ++ [(lk (lw (a, j)), k2, V.bl true)]))) k3 (.tup [ev (some a), ev (some j)])) k3 (a, j) := upd_same
          have IA := I9.same ek3
          have gtpA := ek3 _ _ gtp9
          refine ⟨Wa, _, _, rfl, rfl, IA.hW, ?_, ?_⟩
          · rw [lwl6, bl6]
            exact Nat.lt_of_le_of_lt (Nat.add_le_add_left (Nat.le_trans few6 fAB) 1) (by decide)
          have IB := IA.app nW gk3
          have gtpB := IA.tkW (o := .lst (wls ++ [.ref k3])) gtpA
          refine ⟨X ++ [(a, j)], _, _, _, _, _, rfl, by rw [← List.append_assoc, ← List.append_assoc]; exact IB, by rw [← List.append_assoc, ← List.append_assoc]; exact b6.add (c := bi) (List.mem_append.mpr (.inl hpm)) ha hb hin, gtpB, close (X ++ [(a, j)]) (fun r h => ?_) (fun a' e => ?_)⟩
          · rw [← List.append_assoc]
            exact List.mem_append.mpr (.inl h)
          · rw [ha] at e
            cases e
            refine ⟨j, hb, ?_⟩
            rw [← List.append_assoc]
            exact List.mem_append.mpr (.inr (List.mem_singleton.mpr rfl))
    rintro σ' H6 ⟨X, wls, kvs, x7, x8, x9, rfl, I6, b6, gtp6, o0, o1⟩
    have o0 := o0 (by show 1 ≤ 2; decide)
    have o1 := o1 (by show 2 ≤ 2; decide)
    refine ⟨_, rfl, _, _, rfl, rfl, ?_⟩
    have lX : (Wl ++ X).length = Wl.length + X.length := List.length_append
    refine ⟨m - 1, by omega, Wl ++ X, Sn ++ X, wls, kvs, d + 1, _, _, _, _, _, rfl, I6, b6, ?_, by omega, by omega⟩
    intro k p' cc a hk hp' hq
    by_cases hk' : k < d
    · rw [List.getElem?_append_left (by omega)] at hp'
      obtain ⟨j, g1, g2⟩ := wc k p' cc a hk' hp' hq
      exact ⟨j, g1, List.mem_append.mpr (.inl g2)⟩
    · obtain rfl : k = d := by omega
      rw [List.getElem?_append_left hlt', hpl] at hp'
      cases hp'
      cases cc with
      | false => exact o0 a hq
      | true => exact o1 a hq
end
end PA

set_option maxHeartbeats 8000000
namespace PA
open PySem L2 RZ
open C8 (pss_cut tCut)
open JM (LineOk)
abbrev NNear : List Str := ["_law_stream", "_law_lines", "_law_found", "_law_size", "_law_kind", "_law_at", "_law_row", "_law_order", "_law_mixed_here", "_law_state", "_law_entry"]
theorem ea_set {α : Type} {H : Hp} {Pc : Hp → Addr → α → Prop} {xs : List V} {ds : List α} {t : Addr} {r : α} (e : Ea H Pc xs ds) (i : Nat) (q : Pc H t r) : Ea H Pc (xs.set i (.ref t)) (ds.set i r) := by
  refine ⟨by rw [List.length_set, List.length_set, e.1], fun j x d h1 h2 => ?_⟩
  by_cases h : i = j
  · subst h
    have l1 := (List.getElem?_eq_some_iff.mp h1).1
    have l2 := (List.getElem?_eq_some_iff.mp h2).1
    rw [List.length_set] at l1 l2
    rw [List.getElem?_set_self l1] at h1
    rw [List.getElem?_set_self l2] at h2
    cases h1
    cases h2
    exact ⟨t, rfl, q⟩
  · rw [List.getElem?_set_ne h] at h1
    rw [List.getElem?_set_ne h] at h2
    exact e.2 j x d h1 h2
theorem GoodL.set {ls : List Ln} (g : GoodL ls) {l : Ln} (i : Nat) (h : LOk ls.length l) : GoodL (ls.set i l) := by
  refine ⟨by rw [List.length_set]; exact g.one, by rw [List.length_set]; exact g.most, fun x hx => ?_⟩
  rw [List.length_set]
  rcases List.mem_or_eq_of_mem_set hx with hx | rfl
  · exact g.ok x hx
  · exact h
theorem atI_n {α : Type} {xs : List α} {i : Nat} {x : α} (h : xs[i]? = some x) : atI xs (i : Int) = some x := by
  unfold atI
  rw [Evl.ixN_nat (List.getElem?_eq_some_iff.mp h).1]
  exact h
def nV (ns : List Nat) : List V := ns.map fun (n : Nat) => V.int ((n : Nat) : Int)
theorem nV_perm {ys : List V} {ns : List Nat} (h : ys.Perm (nV ns)) : ∃ ms : List Nat, ys = nV ms ∧ ms.Perm ns := by
  have fm : ∀ v ∈ ys, ∃ z : Nat, v = V.int (z : Int) := fun v hv => by
    obtain ⟨z, _, rfl⟩ := List.mem_map.mp (h.mem_iff.mp hv)
    exact ⟨z, rfl⟩
  let g : V → Nat := fun v => match v with | .int z => z.toNat | _ => 0
  refine ⟨ys.map g, ?_, ?_⟩
  · unfold nV
    rw [List.map_map]
    refine (List.map_id ys).symm.trans (List.map_congr_left fun v hv => ?_)
    obtain ⟨z, rfl⟩ := fm v hv
    rfl
  · have := h.map g
    have e : (nV ns).map g = ns := by
      unfold nV
      rw [List.map_map]
      refine (List.map_congr_left fun v hv => ?_).trans (List.map_id ns)
      rfl
    rw [e] at this
    exact this
theorem rg1 (n : Nat) (h : 1 ≤ n) : rgV 1 ((n : Nat) : Int) = nV (List.range' 1 (n - 1)) := by
  unfold rgV nV
  rw [show (((n : Nat) : Int) - 1).toNat = n - 1 by omega, List.range'_eq_map_range, List.map_map]
  refine List.map_congr_left fun i _ => ?_
  simp
/-- the place of a state in an order of all of them -/
theorem place {os : List Nat} {n e : Nat} (hp : os.Perm (List.range n)) (h : e < n) : ∃ j, os[j]? = some e ∧ j < n ∧ ∀ m z, m < j → os[m]? = some z → z ≠ e := by
  have hm : e ∈ os := hp.mem_iff.mpr (List.mem_range.mpr h)
  have nd : os.Nodup := hp.nodup_iff.mpr List.nodup_range
  obtain ⟨j, hj, ej⟩ := List.getElem_of_mem hm
  have hl : os.length = n := by rw [hp.length_eq, List.length_range]
  refine ⟨j, by rw [List.getElem?_eq_getElem hj, ej], by omega, fun m z hmj hz ez => ?_⟩
  have hm' : m < os.length := by omega
  rw [List.getElem?_eq_getElem hm'] at hz
  have e2 : os[m] = os[j] := by injection hz with hz; rw [hz, ez, ej]
  have := LF.ix_get nd (List.getElem?_eq_getElem hm')
  have t2 := LF.ix_get nd (List.getElem?_eq_getElem hj)
  rw [e2, t2] at this
  omega
def PlaceOf (os : List Nat) : Option Nat → Option Nat → Prop
  | none, o' => o' = none
  | some e, o' => ∃ j, o' = some j ∧ os[j]? = some e ∧ ∀ m z, m < j → os[m]? = some z → z ≠ e
theorem eqV_int (i : Int) : eqV (.int i) (.int i) = true := by simp [eqV]
theorem neV_int {i j : Nat} (h : i ≠ j) : eqV (.int ((i : Nat) : Int)) (.int ((j : Nat) : Int)) = false := by
  simp [eqV]
  omega
theorem mt_indexK {X : Cx} {K : PySem.W.Frag} (h : X.K = K) : MtR X "list.index" (rIndex K) := h ▸ mt_index
def spNear : Sp := fun vs H Q _ => ∃ (a l L : Addr) (n : Nat) (refs : List V) (ls : List Ln), vs = [.ref a, .ref L] ∧ StreamAt H a l n ∧ n ≤ 3000 ∧ H L = some (.lst refs) ∧ L ≠ a ∧ L ≠ l ∧ Ea H isLn refs ls ∧ GoodL ls ∧ ls.length ≤ 7 ∧
  ∀ (L' : Addr) (refs' : List V) (ls' : List Ln) (n' : Nat) (H' : Hp), H' L' = some (.lst refs') → L' ≠ a → L' ≠ l → Ea H' isLn refs' ls' → GoodL ls' → ls'.length ≤ 8 → StreamAt H' a l n' → n' ≤ n + 300 → Keep a l H H' → Q (.ref L') H'
section
variable {P : Program} {w : World} {K : PySem.W.Frag} {mg : Str → Option Value} {base : Heap} {C : Addr}
theorem scNear : FnScope NNear ["_law_stream", "_law_lines"] (defScope sNear) := ⟨rfl, rfl, rfl, by decide +kernel, rfl, by decide +kernel, by decide +kernel⟩
theorem ok_near {f g1 g2 g3 g4 : Addr} {fd gd1 gd2 gd3 gd4 : FuncData} (F : Fun K "_law_near" "_law_near" sNear f fd) (T : Txt K mg) (D1 : Df K mg "_law_draw" sDraw g1 gd1 ["_law_stream", "_law_many"]) (D2 : Df K mg "_law_m_entry" sEntry g2 gd2 ["_law_stream", "_law_size"]) (D3 : Df K mg "_law_m_lines" sLines g3 gd3 ["_law_stream", "_law_most"]) (D4 : Df K mg "_law_mixed" sMixed g4 gd4 ["_law_stream", "_law_some"]) : FnOk P w K mg base CX0 4 f fd ["_law_stream", "_law_lines"] spNear := by
  have G1 : FnOk P w K mg base CX0 1 g1 gd1 ["_law_stream", "_law_many"] spDraw := ok_draw D1.F T
  have G3 : FnOk P w K mg base CX0 3 g3 gd3 ["_law_stream", "_law_most"] spLines := ok_lines D3.F T D1 D2
  have G4 : FnOk P w K mg base CX0 2 g4 gd4 ["_law_stream", "_law_some"] spMixed := ok_mixed D4.F T D1
  refine F.ok scNear (fun vs H Q E h => ?_) (fun cdv A0 outer s H vs Q E hr h => ?_)
  · obtain ⟨a, l, L, _, _, _, rfl, _⟩ := h
    rfl
  · obtain ⟨a, l, L, n, refs, ls, rfl, S0, hn, hL, La, Ll, hE, gd, l7, kk⟩ := h
    have hr1 : Room 1 _ := hr.mono (by decide)
    have hr2 : Room 2 _ := hr.mono (by decide)
    refine ⟨_, pss_cons (ps_par3 (i := 2) (j := 3) (l := 4) (by rfl) scNear.nd rfl rfl rfl (by decide) (by decide) (by decide) rfl rfl rfl (pa_cons (pe_callTy call_list_of (by rfl) T.list_ boot_list' (pa_cons (pv 1) pa_nil)) (pa_cons (pe_callB call_len_seq (by rfl) T.len_ PySem.boot_len (pa_cons (pv 1) pa_nil)) (pa_cons (pe_call G1 hr1 rfl D1.M D1.F.kp D1.B .nil pass0 (pa_cons (pv 0) (pa_cons pe_int pa_nil))) pa_nil))) (by rfl))
      (pss_cons (ps_set (i := 5) scNear.nd rfl (Or.inl rfl) (pe_call G1 hr1 rfl D1.M D1.F.kp D1.B .nil pass0 (pa_cons (pv 0) (pa_cons (pv 3) pa_nil))))
      (pss_cut (ps_if (pt_cmpR op_eq (pv 4) pe_int (nomark _)) (pss_one (ps_ret (pe_call G3 hr rfl D3.M D3.F.kp D3.B .nil pass0 (pa_cons (pv 0) (pa_cons pe_int pa_nil))))) pss_nil)
      (pss_cut (ps_if (pt_cmpR op_eq (pv 4) pe_int (nomark _))
        (pss_cons (ps_set (i := 6) scNear.nd rfl (Or.inl rfl) (pe_callTy call_list_of (by rfl) T.list_ boot_list' (pa_cons (pe_ix ix_list (pv 2) (pv 5) (fun _ _ => rfl)) pa_nil)))
        (pss_cons (ps_asg pe_non (pg_sub (pv 6) (pe_call G1 hr1 rfl D1.M D1.F.kp D1.B .nil pass0 (pa_cons (pv 0) (pa_cons pe_int pa_nil))) set_list))
        (pss_one (ps_asg (pe_callTy call_tuple_of (by rfl) T.tup_ boot_tuple' (pa_cons (pv 6) pa_nil)) (pg_sub (pv 2) (pv 5) set_list))))) pss_nil)
      (pss_cut (ps_if (pt_cmpR op_eq (pv 4) pe_int (nomark _))
        (pss_one (ps_asg (pe_tup (pa_cons (pe_ix ix_tup (pe_ix ix_list (pv 2) (pv 5) (fun _ _ => rfl)) pe_int (fun _ _ => rfl)) (pa_cons (pe_call G1 hr1 rfl D1.M D1.F.kp D1.B .nil pass0 (pa_cons (pv 0) (pa_cons (pv 3) pa_nil))) pa_nil))) (pg_sub (pv 2) (pv 5) set_list))) pss_nil)
      (pss_cut (ps_if (pt_cmpR op_eq (pv 4) pe_int (nomark _))
        (pss_cons (ps_set (i := 7) scNear.nd rfl (Or.inr rfl) (pe_op op_cat (pe_lst (pa_cons pe_int pa_nil)) (pe_call G4 hr2 rfl D4.M D4.F.kp D4.B .nil pass0 (pa_cons (pv 0) (pa_cons (pe_listRg (by rfl) (by rfl) T.list_ (prg_2 (by rfl) T.range_ pe_int (pv 3))) pa_nil)))))
        (pss_cons (ps_set (i := 8) scNear.nd rfl (Or.inl rfl) (pe_lst pa_nil))
        (pss_cons (ps_for PassesOwn.never rfl (pi_list (pv 7)) (pg_name (i := 9) scNear.nd rfl (Or.inl rfl))
          (pss_cons (ps_setLc (i := 6) (own := [("_law_entry", 10)]) (g := gName 10) (tt := tYes) (by rfl) scNear.nd rfl rfl (sw_true rfl rfl rfl (by decide +kernel)) (pi_tup (pe_ix ix_list (pv 1) (pv 9) (fun _ _ => rfl))) (blkOk_by (N := NNear) (sc := defScope sNear) (by decide +kernel))
            (fun _ _ _ _ _ => pg_name (i := 10) scNear.nd rfl (Or.inl rfl)) (fun _ _ _ _ _ => pts_nil)
            (fun _ _ _ _ _ => pe_ifExp (pt_cmpR op_isN (pv 10) pe_non (nomark _)) pe_non (pe_bmF (K := K) rfl PySem.F.plainAttrs_list PySem.F.slot_list_index PySem.F.type_list_index (mt_indexK (K := K) rfl) (pv 7) (pa_cons (pv 10) pa_nil))))
          (pss_one (ps_expr (pe_bm PySem.F.plainAttrs_list PySem.F.slot_list_append PySem.F.type_list_append mt_append (pv 8) (pa_cons (pe_callTy call_tuple_of (by rfl) T.tup_ boot_tuple' (pa_cons (pv 6) pa_nil)) pa_nil))))))
        (pss_one (ps_set (i := 2) scNear.nd rfl (Or.inl rfl) (pe_op op_cat (pv 8) (pe_lst (pa_cons (pe_tup (pa_cons (pe_call G1 hr1 rfl D1.M D1.F.kp D1.B .nil pass0 (pa_cons (pv 0) (pa_cons (pv 3) pa_nil))) (pa_cons pe_non pa_nil))) pa_nil)))))))) pss_nil)
      (pss_one (ps_ret (pv 2)))))))), ?_⟩
    have hl : refs.length = ls.length := hE.1
    obtain ⟨o1, o48, ook⟩ := id gd
    refine ⟨_, rfl, L, _, rfl, .inl (SqL.of hL), fun Fo hFo => ?_⟩
    have eF := new_ (o := .lst refs) hFo
    have gF : (upd H Fo (.lst refs)) Fo = some (.lst refs) := upd_same
    obtain ⟨Fa, Fl⟩ := S0.ne hFo
    have S1 := S0.same eF
    have FL : L ≠ Fo := ne_of_none hL hFo
    generalize (upd H Fo (.lst refs)) = H1 at eF gF S1 ⊢
    refine ⟨_, rfl, L, _, rfl, .inl (SqL.of (eF _ _ hL)), ?_⟩
    refine ⟨_, rfl, a, l, n, 4, rfl, S1, by omega, by decide, sm4 (by decide) (by decide), fun kd H2 kd0 kd1 S2 k2 => ⟨_, _, _, rfl, ?_⟩⟩
    rw [hl]
    refine ⟨_, rfl, _, rfl, a, l, n + 1, ((ls.length : Nat) : Int), rfl, S2, by omega, by omega, sm4 (by omega) (by omega), fun at_ H3 at0 at1 S3 k3 => ?_⟩
    obtain ⟨at_, rfl⟩ := Int.eq_ofNat_of_zero_le at0
    have hat : at_ < ls.length := by omega
    have K3 : Keep a l H H3 := ((Keep.of eF).trans k2).trans k3
    have gF3 := k3 _ _ Fa Fl (k2 _ _ Fa Fl gF)
    have E3 : Ea H3 isLn refs ls := EaKp hE S0 K3
    have hL3 := K3 _ _ La Ll hL
    clear S2 k2 k3 gF eF S1
    -- a new one
    refine ⟨fun σ' H' => σ' = [some (.ref a), some (.ref L), some (.ref Fo), some (.int ((ls.length : Nat) : Int)), some (.int kd), some (.int ((at_ : Nat) : Int)), none, none, none, none, none] ∧ H3 = H', ?_, ?_⟩
    · refine ⟨_, rfl, rfl, _, rfl, ifD_2 (fun _ => ?_) (fun _ => ⟨rfl, rfl⟩)⟩
      refine ⟨_, rfl, a, l, n + 1 + 1, 7, rfl, S3, by omega, by decide, by decide, fun L' refs' ls' n' H' w1 w2 w3 w4 w5 w6 w7 w8 w9 w10 => ?_⟩
      exact kk L' refs' ls' n' H' w1 w3 w4 w5 w6 (by omega) w8 (by omega) (K3.trans w10)
    rintro _ _ ⟨rfl, rfl⟩
    obtain ⟨c, hc, hcl⟩ := E3.get (List.getElem?_eq_getElem hat)
    have hlk := ook _ (List.getElem_mem hat)
    -- an end more
    refine ⟨fun σ' H' => ∃ (x6 : Option V) (refs1 : List V) (ls1 : List Ln) (n1 : Nat), σ' = [some (.ref a), some (.ref L), some (.ref Fo), some (.int ((ls.length : Nat) : Int)), some (.int kd), some (.int ((at_ : Nat) : Int)), x6, none, none, none, none] ∧ H' Fo = some (.lst refs1) ∧ Ea H' isLn refs1 ls1 ∧ GoodL ls1 ∧ ls1.length = ls.length ∧ StreamAt H' a l n1 ∧ n1 ≤ n + 3 ∧ Keep a l H H', ?_, ?_⟩
    · refine ⟨_, rfl, rfl, _, rfl, ifD_2 (fun _ => ?_) (fun _ => ⟨_, refs, ls, _, rfl, gF3, E3, gd, rfl, S3, by omega, K3⟩)⟩
      generalize ls[at_] = l0 at hcl hlk
      refine ⟨_, rfl, _, rfl, Fo, refs, ((at_ : Nat) : Int), .ref c, rfl, rfl, SqL.of gF3, atI_n hc, c, _, rfl, .inr (SqT.of hcl), fun Rw hRw => ?_⟩
      have eR := new_ (o := .lst (lv l0)) hRw
      have gR : (upd H3 Rw (.lst (lv l0))) Rw = some (.lst (lv l0)) := upd_same
      obtain ⟨Ra, Rl⟩ := S3.ne hRw
      have RF : Rw ≠ Fo := (ne_of_none gF3 hRw).symm
      have nR : H Rw = none := K3.none Ra Rl hRw
      have S4 := S3.same eR
      have K4 := K3.trans (Keep.of eR)
      have gF4 := eR _ _ gF3
      have E4 := E3.same eR
      generalize (upd H3 Rw (.lst (lv l0))) = H4 at gR S4 K4 gF4 E4 ⊢
      refine ⟨_, rfl, _, rfl, a, l, n + 1 + 1, 2, rfl, S4, by omega, by decide, sm4 (by decide) (by decide), fun d H5 d0 d1 S5 k5 => ?_⟩
      have gR5 := k5 _ _ Ra Rl gR
      have gF5 := k5 _ _ Fa Fl gF4
      have E5 := EaKp E4 S4 k5
      have K5 := K4.trans k5
      obtain ⟨b, rfl⟩ : ∃ b : Bool, d = if b = true then 1 else 0 := by
        have : d = 0 ∨ d = 1 := by omega
        rcases this with rfl | rfl
        · exact ⟨false, rfl⟩
        · exact ⟨true, rfl⟩
      refine ⟨Rw, lv l0, _, if b = true then 1 else 0, rfl, rfl, gR5, by cases b <;> rfl, ?_⟩
      have es : (lv l0).set (if b = true then 1 else 0) V.non = lv (if b = true then (l0.1, none) else (none, l0.2)) := by cases b <;> rfl
      rw [es]
      have hlk1 : LOk ls.length (if b = true then (l0.1, none) else (none, l0.2)) := by
        cases b
        · exact ⟨(fun a h => by cases h), hlk.2⟩
        · exact ⟨hlk.1, (fun a h => by cases h)⟩
      generalize (if b = true then (l0.1, none) else (none, l0.2)) = l1 at hlk1 ⊢
      have tk6 : ∀ d ys, H5 d = some (.tup ys) → (upd H5 Rw (.lst (lv l1))) d = some (.tup ys) := fun d ys e => by
        rw [upd_ne (ne_of e gR5 (by intro z; cases z))]
        exact e
      have gF6 : (upd H5 Rw (.lst (lv l1))) Fo = some (.lst refs) := by rw [upd_ne RF.symm]; exact gF5
      have gR6 : (upd H5 Rw (.lst (lv l1))) Rw = some (.lst (lv l1)) := upd_same
      have E6 : Ea (upd H5 Rw (.lst (lv l1))) isLn refs ls := E5.imp fun c r q => tk6 _ _ q
      have S6 := S5.lst (ys := lv l1) gR5 Ra Rl
      have K6 := keep_upd (o := .lst (lv l1)) K5 nR
      generalize (upd H5 Rw (.lst (lv l1))) = H6 at gF6 gR6 E6 S6 K6 ⊢
      refine ⟨_, rfl, Rw, _, rfl, .inl ⟨SqL.of gR6, fun t ht => ?_⟩⟩
      have et := new_ (o := .tup (lv l1)) ht
      have gt : isLn (upd H6 t (.tup (lv l1))) t l1 := upd_same
      have gF7 := et _ _ gF6
      have E7 := E6.same et
      have S7 := S6.same et
      have K7 := K6.trans (Keep.of et)
      generalize (upd H6 t (.tup (lv l1))) = H7 at gt gF7 E7 S7 K7 ⊢
      refine ⟨_, rfl, _, rfl, Fo, refs, ((at_ : Nat) : Int), at_, rfl, rfl, gF7, Evl.ixN_nat (by omega), ?_⟩
      exact ⟨_, refs.set at_ (.ref t), ls.set at_ l1, _, rfl, upd_same, (ea_set E7 at_ gt).imp fun c r q => TupOf.lst q gF7, gd.set at_ hlk1, List.length_set .., S7.lst gF7 Fa Fl, by omega, keep_upd K7 hFo⟩
    rintro _ H4 ⟨x6, refs1, ls1, n1, rfl, gF4, E4, gd4, hl4, S4, hn1, K4⟩
    clear E3 gF3 S3 K3 hL3 hc hcl hlk
    have hl4' : refs1.length = ls1.length := E4.1
    -- another
    refine ⟨fun σ' H' => ∃ (x6 : Option V) (refs1 : List V) (ls1 : List Ln) (n1 : Nat), σ' = [some (.ref a), some (.ref L), some (.ref Fo), some (.int ((ls.length : Nat) : Int)), some (.int kd), some (.int ((at_ : Nat) : Int)), x6, none, none, none, none] ∧ H' Fo = some (.lst refs1) ∧ Ea H' isLn refs1 ls1 ∧ GoodL ls1 ∧ ls1.length = ls.length ∧ StreamAt H' a l n1 ∧ n1 ≤ n + 4 ∧ Keep a l H H', ?_, ?_⟩
    · refine ⟨_, rfl, rfl, _, rfl, ifD_2 (fun _ => ?_) (fun _ => ⟨_, refs1, ls1, _, rfl, gF4, E4, gd4, hl4, S4, by omega, K4⟩)⟩
      have hat4 : at_ < ls1.length := by omega
      obtain ⟨c, hc, hcl⟩ := E4.get (List.getElem?_eq_getElem hat4)
      have hlk := gd4.ok _ (List.getElem_mem hat4)
      generalize ls1[at_] = l0 at hcl hlk
      refine ⟨_, rfl, _, rfl, Fo, refs1, ((at_ : Nat) : Int), .ref c, rfl, rfl, SqL.of gF4, atI_n hc, c, _, 0, _, rfl, rfl, SqT.of hcl, rfl, ?_⟩
      refine ⟨_, rfl, _, rfl, a, l, n1, ((ls.length : Nat) : Int), rfl, S4, by omega, by omega, sm4 (by omega) (by omega), fun v H5 v0 v1 S5 k5 => ⟨by show 2 ≤ sizeLine; decide, fun t ht => ?_⟩⟩
      obtain ⟨v, rfl⟩ := Int.eq_ofNat_of_zero_le v0
      have gF5 := k5 _ _ Fa Fl gF4
      have E5 := EaKp E4 S4 k5
      have et := new_ (o := .tup [ev l0.1, V.int ((v : Nat) : Int)]) ht
      have gt : isLn (upd H5 t (.tup [ev l0.1, V.int ((v : Nat) : Int)])) t (l0.1, some v) := upd_same
      have gF7 := et _ _ gF5
      have E7 := E5.same et
      have S7 := S5.same et
      have K7 := (K4.trans k5).trans (Keep.of et)
      generalize (upd H5 t (.tup [ev l0.1, V.int ((v : Nat) : Int)])) = H7 at gt gF7 E7 S7 K7 ⊢
      refine ⟨_, rfl, _, rfl, Fo, refs1, ((at_ : Nat) : Int), at_, rfl, rfl, gF7, Evl.ixN_nat (by omega), ?_⟩
      have hlk1 : LOk ls1.length (l0.1, some v) := ⟨hlk.1, fun a h => by cases h; omega⟩
      exact ⟨_, refs1.set at_ (.ref t), ls1.set at_ (l0.1, some v), _, rfl, upd_same, (ea_set E7 at_ gt).imp fun c r q => TupOf.lst q gF7, gd4.set at_ hlk1, by rw [List.length_set]; exact hl4, S7.lst gF7 Fa Fl, by omega, keep_upd K7 hFo⟩
    rintro _ H5 ⟨x6, refs1, ls1, n1, rfl, gF5, E5, gd5, hl5, S5, hn5, K5⟩
    clear E4 gF4 gd4 hl4 S4 K4 hl4' hn1
    -- the same in another order
    refine ⟨fun σ' H' => ∃ (x6 x7 x8 x9 : Option V) (L' : Addr) (refs1 : List V) (ls1 : List Ln) (n1 : Nat), σ' = [some (.ref a), some (.ref L), some (.ref L'), some (.int ((ls.length : Nat) : Int)), some (.int kd), some (.int ((at_ : Nat) : Int)), x6, x7, x8, x9, none] ∧ H' L' = some (.lst refs1) ∧ L' ≠ a ∧ L' ≠ l ∧ Ea H' isLn refs1 ls1 ∧ GoodL ls1 ∧ ls1.length ≤ 8 ∧ StreamAt H' a l n1 ∧ n1 ≤ n + 300 ∧ Keep a l H H', ?_, ?_⟩
    rotate_left
    · rintro _ H6 ⟨x6, x7, x8, x9, L', refs1, ls1, n1, rfl, gL', L1, L2', E6, gd6, l8, S6, hn6, K6⟩
      exact ⟨_, rfl, kk L' refs1 ls1 n1 H6 gL' L1 L2' E6 gd6 l8 S6 hn6 K6⟩
    refine ⟨_, rfl, rfl, _, rfl, ifD_2 (fun _ => ?_) (fun _ => ⟨_, _, _, _, Fo, refs1, ls1, _, rfl, gF5, Fa, Fl, E5, gd5, by omega, S5, by omega, K5⟩)⟩
    clear gF5 E5 gd5 hl5 refs1 ls1
    have hL5 := K5 _ _ La Ll hL
    have E5 : Ea H5 isLn refs ls := EaKp hE S0 K5
    refine ⟨by show 1 ≤ sizeLine; decide, fun p0 hp0 => ?_⟩
    have e0 := new_ (o := .lst [V.int 0]) hp0
    have g0 : (upd H5 p0 (.lst [V.int 0])) p0 = some (.lst [V.int 0]) := upd_same
    obtain ⟨pa, pl⟩ := S5.ne hp0
    have S6 := S5.same e0
    have K6 := K5.trans (Keep.of e0)
    have E6 := E5.same e0
    have hL6 := e0 _ _ hL5
    generalize (upd H5 p0 (.lst [V.int 0])) = H6 at g0 S6 K6 E6 hL6 ⊢
    clear E5 hL5 S5 K5 e0
    refine ⟨_, rfl, _, rfl, _, _, rfl, rfl, ⟨by decide, by decide, by omega, by omega, by omega⟩, fun q hq => ?_⟩
    have e1 := new_ (o := .lst (rgV 1 ((ls.length : Nat) : Int))) hq
    have g1 : (upd H6 q (.lst (rgV 1 ((ls.length : Nat) : Int)))) q = some (.lst (rgV 1 ((ls.length : Nat) : Int))) := upd_same
    have g0' := e1 _ _ g0
    have S7 := S6.same e1
    have K7 := K6.trans (Keep.of e1)
    have E7 := E6.same e1
    have hL7 := e1 _ _ hL6
    generalize (upd H6 q (.lst (rgV 1 ((ls.length : Nat) : Int)))) = H7 at g1 g0' S7 K7 E7 hL7 ⊢
    clear E6 hL6 S6 K6 e1 g0
    rw [rg1 _ o1] at g1
    have lq : (nV (List.range' 1 (ls.length - 1))).length = ls.length - 1 := by unfold nV; rw [List.length_map, List.length_range']
    refine ⟨a, l, q, n1, _, rfl, S7, by omega, g1, by omega, fun tm ys H8 hm perm ma ml _ S8 k8 => ?_⟩
    obtain ⟨ms, rfl, pm⟩ := nV_perm perm
    have K8 := K7.trans k8
    have g08 := k8 _ _ pa pl g0'
    have E8 := EaKp E7 S7 k8
    have hL8 := k8 _ _ La Ll hL7
    clear g0' E7 hL7 K7 k8 S7 perm g1
    have lms : ms.length = ls.length - 1 := by rw [pm.length_eq, List.length_range']
    refine ⟨_, _, _, _, rfl, rfl, g08, hm, ?_, fun Od hOd => ?_⟩
    · have : (nV ms).length = ms.length := List.length_map _
      rw [this]
      exact Nat.le_trans (by simp; omega : _ ≤ 8) (by decide)
    have eo : [V.int 0] ++ nV ms = nV (0 :: ms) := rfl
    rw [eo]
    have pos : (0 :: ms).Perm (List.range ls.length) := by
      have e : List.range ls.length = 0 :: List.range' 1 (ls.length - 1) := by
        rw [List.range_eq_range']
        cases hn : ls.length with
        | zero => omega
        | succ k => rfl
      rw [e]
      exact pm.cons 0
    have los : (0 :: ms).length = ls.length := by rw [pos.length_eq, List.length_range]
    generalize (0 :: ms) = os at pos los ⊢
    have e2 := new_ (o := .lst (nV os)) hOd
    have gO : (upd H8 Od (.lst (nV os))) Od = some (.lst (nV os)) := upd_same
    obtain ⟨Oa, Ol⟩ := S8.ne hOd
    have S9 := S8.same e2
    have K9 := K8.trans (Keep.of e2)
    have E9 := E8.same e2
    have hL9 := e2 _ _ hL8
    generalize (upd H8 Od (.lst (nV os))) = H9 at gO S9 K9 E9 hL9 ⊢
    clear g08 E8 hL8 K8 S8 e2 hm
    refine ⟨Nat.zero_le _, fun Mx hMx => ?_⟩
    have e3 := new_ (o := .lst []) hMx
    obtain ⟨Ma, Ml⟩ := S9.ne hMx
    have nM : H Mx = none := K9.none Ma Ml hMx
    have MO : Od ≠ Mx := ne_of_none gO hMx
    have ML : L ≠ Mx := ne_of_none hL9 hMx
    refine ⟨_, rfl, Od, rfl, ⟨_, SqL.of (e3 _ _ gO)⟩, ?_⟩
    have S10 := S9.same e3
    refine for_list (xs := nV os) (fun i σ' H' => ∃ (x6 x9 : Option V) (acc : List V) (ds : List Ln), σ' = [some (.ref a), some (.ref L), some (.ref Fo), some (.int ((ls.length : Nat) : Int)), some (.int kd), some (.int ((at_ : Nat) : Int)), x6, some (.ref Od), some (.ref Mx), x9, none] ∧ Same H9 H' ∧ H' Mx = some (.lst acc) ∧ Ea H' isLn acc ds ∧ ds.length = i ∧ (∀ d ∈ ds, LOk ls.length d)) ?_ ?_ ?_ ?_
    · exact ⟨_, _, [], [], rfl, e3, upd_same, Ea.nil, rfl, fun d hd => by cases hd⟩
    · rintro i σ' H' _ ⟨_, _, _, _, _, s', _⟩
      exact SqL.of (s' _ _ gO)
    · rintro i x _ HA hx ⟨x6, x9, acc, ds, rfl, sA, hM, eA, hd, hok⟩
      have hi : i < os.length := by
        have := (List.getElem?_eq_some_iff.mp hx).1
        unfold nV at this
        rwa [List.length_map] at this
      obtain ⟨e, rfl, he⟩ : ∃ e : Nat, x = .int (e : Int) ∧ e < ls.length := by
        unfold nV at hx
        rw [List.getElem?_map, List.getElem?_eq_getElem hi] at hx
        refine ⟨os[i], by injection hx with hx; exact hx.symm, ?_⟩
        exact List.mem_range.mp (pos.mem_iff.mp (List.getElem_mem hi))
      obtain ⟨c, hc, hcl⟩ := E9.get (List.getElem?_eq_getElem he)
      have hlk := ook _ (List.getElem_mem he)
      generalize ls[e] = l0 at hcl hlk
      have hcl : HA c = some (.tup (lv l0)) := sA _ _ hcl
      have pl : ∀ o, EOk ls.length o → ∃ o', EOk ls.length o' ∧ PlaceOf os o o' := fun o ho => by
        cases o with
        | none => exact ⟨none, (fun a h => by cases h), rfl⟩
        | some k =>
          obtain ⟨j, w1, w2, w3⟩ := place pos (ho k rfl)
          exact ⟨some j, (fun a h => by cases h; exact w2), j, rfl, w1, w3⟩
      obtain ⟨o1', q1, p1⟩ := pl l0.1 hlk.1
      obtain ⟨o2', q2, p2⟩ := pl l0.2 hlk.2
      clear pl
      refine ⟨_, rfl, _, rfl, L, refs, ((e : Nat) : Int), .ref c, rfl, rfl, SqL.of (sA _ _ hL9), atI_n hc, c, rfl, ⟨_, SqT.of hcl⟩, fun Dr hDr => ?_⟩
      have eD := new_ (o := .lst []) hDr
      have DM : Mx ≠ Dr := ne_of_none hM hDr
      refine lc_tup (K := K) (a := c) (xs := lv l0) (fun k H' => Same HA H' ∧ H' Dr = some (.lst ((lv (o1', o2')).take k))) ?_ ?_ ?_ ?_
      · exact ⟨eD, upd_same⟩
      · rintro k H' _ ⟨s', _⟩
        exact SqT.of (s' _ _ hcl)
      · rintro k x HB hx ⟨sB, hdB⟩
        obtain ⟨o, o', rfl, hP, htk, hk⟩ : ∃ o o', x = ev o ∧ PlaceOf os o o' ∧ (lv (o1', o2')).take (k + 1) = (lv (o1', o2')).take k ++ [ev o'] ∧ k < 2 := by
          match k, hx with
          | 0, hx => cases hx; exact ⟨_, _, rfl, p1, rfl, by decide⟩
          | 1, hx => cases hx; exact ⟨_, _, rfl, p2, rfl, by decide⟩
          | (k + 2), hx => simp [lv] at hx
        have done : ∃ acc, HB Dr = some (.lst acc) ∧ acc.length < sizeLine ∧ (Same HA (upd HB Dr (.lst (acc ++ [ev o']))) ∧ (upd HB Dr (.lst (acc ++ [ev o']))) Dr = some (.lst ((lv (o1', o2')).take (k + 1)))) := by
          refine ⟨_, hdB, ?_, fun d u z => ?_, ?_⟩
          · rw [List.length_take]
            exact Nat.lt_of_le_of_lt (Nat.min_le_left _ _) (Nat.lt_of_lt_of_le hk (by decide))
          · rw [upd_ne (ne_of_none z hDr)]
            exact sB _ _ z
          · rw [upd_same, htk]
        have hO := sB _ _ (sA _ _ gO)
        refine ⟨rfl, ?_⟩
        dsimp only [tYes]
        rw [if_pos rfl]
        refine ⟨_, rfl, rfl, _, rfl, ?_⟩
        rw [ev_non]
        cases o with
        | none =>
          have hP : o' = none := hP
          subst hP
          exact iteT done
        | some u =>
          obtain ⟨j, rfl, w1, w3⟩ := hP
          have wj : (nV os)[j]? = some (.int ((u : Nat) : Int)) := by
            unfold nV
            rw [List.getElem?_map, w1]
            rfl
          refine iteF ⟨_, rfl, .inl ⟨rfl, _, SqL.of hO⟩, _, rfl, Od, nV os, .int ((u : Nat) : Int), j, .int ((u : Nat) : Int), rfl, rfl, SqL.of hO, rfl, ?_, wj, ?_, ?_, done⟩
          · rw [List.all_eq_true]
            intro v hv
            obtain ⟨z, _, rfl⟩ := List.mem_map.mp hv
            rfl
          · exact eqV_int _
          · intro m z hm hz
            unfold nV at hz
            rw [List.getElem?_map, Option.map_eq_some_iff] at hz
            obtain ⟨y, hy, rfl⟩ := hz
            exact neV_int (w3 m y hm hy)
      rintro HB ⟨sB, hdB⟩
      have hdB : HB Dr = some (.lst (lv (o1', o2'))) := hdB
      refine ⟨_, rfl, .inl ⟨rfl, _, SqL.of (sB _ _ hM)⟩, _, rfl, Dr, _, rfl, .inl ⟨SqL.of hdB, fun t ht => ?_⟩⟩
      have et := new_ (o := .tup (lv (o1', o2'))) ht
      have gt : isLn (upd HB t (.tup (lv (o1', o2')))) t (o1', o2') := upd_same
      have sT := sB.trans et
      generalize (upd HB t (.tup (lv (o1', o2')))) = HC at gt sT ⊢
      have hMC := sT _ _ hM
      refine ⟨Mx, _, _, rfl, rfl, hMC, ?_, _, _, acc ++ [.ref t], ds ++ [(o1', o2')], rfl, fun d u z => ?_, upd_same, ?_, by rw [List.length_append, hd]; rfl, fun d hd' => ?_⟩
      · rw [eA.1, hd]
        exact Nat.lt_of_lt_of_le (by omega : i < 8) (by decide)
      · rw [upd_ne (ne_of_none z hMx)]
        exact sT _ _ (sA _ _ z)
      · exact ((eA.same sT).imp fun c r q => TupOf.lst q hMC).push (TupOf.lst (f := lv) (r := (o1', o2')) gt hMC)
      · rcases List.mem_append.mp hd' with hd' | hd'
        · exact hok d hd'
        · rw [List.mem_singleton.mp hd']
          exact ⟨q1, q2⟩
    rintro σ' HA ⟨x6, x9, acc, ds, rfl, sA, hM, eA, hd, hok⟩
    have lds : ds.length = ls.length := by rw [hd]; unfold nV; rw [List.length_map, los]
    have SA := S9.same sA
    have KA := K9.trans (Keep.of sA)
    refine ⟨_, rfl, _, rfl, _, rfl, a, l, _, ((ls.length : Nat) : Int), rfl, SA, by omega, by omega, sm4 (by omega) (by omega), fun v HB v0 v1 SB kB => ⟨by show 2 ≤ sizeLine; decide, fun t ht => ⟨by show 1 ≤ sizeLine; decide, fun p1 hp1 => ?_⟩⟩⟩
    obtain ⟨v, rfl⟩ := Int.eq_ofNat_of_zero_le v0
    have hMB := kB _ _ Ma Ml hM
    have EB := EaKp eA SA kB
    have et := new_ (o := .tup [V.int ((v : Nat) : Int), .non]) ht
    have gt : isLn (upd HB t (.tup [V.int ((v : Nat) : Int), .non])) t (some v, none) := upd_same
    have SC := SB.same et
    have KC := (KA.trans kB).trans (Keep.of et)
    have hMC := et _ _ hMB
    have EC := EB.same et
    generalize (upd HB t (.tup [V.int ((v : Nat) : Int), .non])) = HC at gt SC KC hMC EC hp1 ⊢
    have e1 := new_ (o := .lst [.ref t]) hp1
    have g1 : (upd HC p1 (.lst [.ref t])) p1 = some (.lst [.ref t]) := upd_same
    have SD := SC.same e1
    have KD := KC.trans (Keep.of e1)
    have hMD := e1 _ _ hMC
    have ED := (EC.push gt).same e1
    generalize (upd HC p1 (.lst [.ref t])) = HD at g1 SD KD hMD ED ⊢
    refine ⟨_, _, _, _, rfl, rfl, hMD, g1, ?_, fun W hW => ?_⟩
    · rw [eA.1, lds]
      exact Nat.le_trans (by simp; omega : _ ≤ 8) (by decide)
    have eW := new_ (o := .lst (acc ++ [.ref t])) hW
    obtain ⟨Wa, Wl⟩ := SD.ne hW
    have ln : (ds ++ [(some v, none)] : List Ln).length = ls.length + 1 := by rw [List.length_append, lds]; rfl
    refine ⟨_, _, _, _, W, acc ++ [.ref t], ds ++ [(some v, none)], _, rfl, upd_same, Wa, Wl, ED.same eW, ⟨by omega, by omega, fun d hd' => ?_⟩, by omega, SD.same eW, by omega, KD.trans (Keep.of eW)⟩
    rw [ln]
    rcases List.mem_append.mp hd' with hd' | hd'
    · have := hok d hd'
      exact ⟨fun a h => Nat.lt_succ_of_lt (this.1 a h), fun a h => Nat.lt_succ_of_lt (this.2 a h)⟩
    · rw [List.mem_singleton.mp hd']
      exact ⟨(fun a h => by cases h; omega), (fun a h => by cases h)⟩
end
end PA

set_option maxHeartbeats 8000000
namespace JM
theorem rc_same {A : List Ln} {i j : Nat} (r : Rc A A i j) : i = j := by
  induction r with
  | z => rfl
  | s c r h1 h2 ih =>
    subst ih
    rw [h1] at h2
    exact Option.some.inj h2
theorem wi_refl (A : List Ln) : Wi A A := fun i j c r h => by
  rw [← rc_same r]
  exact h
end JM
namespace PA
open PySem L2 RZ
open C8 (pss_cut tCut)
open JM (Wi LineOk)
abbrev NLawM : List Str := ["_law_script", "_law_stream", "_law_one", "_law_other", "_law_left", "_law_right", "_law_low", "_law_high", "_law_found", "_law_due"]
theorem mk_set {K : PySem.W.Frag} {C : Addr} {H : Hp} {Q : VK} {E : XK} {L : Addr} {refs : List V} {ls : List Ln} (hL : H L = some (.lst refs) ∨ H L = some (.tup refs)) (hE : Ea H (TLOf lv) refs ls) (gd : GoodL ls)
    {x dx : Addr} (nx : H x = none) (ndx : H dx = none) (nex : dx ≠ x) (kk : ∀ H', Same H H' → SetAt C H' x ls → Q .non H') :
    spInit K C [V.ref x, V.ref L] (upd (upd H dx (.own x)) x (.ins C dx [])) Q E := by
  have s1 : Same H (upd (upd H dx (.own x)) x (.ins C dx [])) := fun c o e => by
    rw [upd_ne (ne_of_none e nx), upd_ne (ne_of_none e ndx)]
    exact e
  exact ⟨x, dx, L, refs, ls, rfl, upd_same, hL.imp (fun h => s1 _ _ h) fun h => s1 _ _ h, hE.imp (fun c r q => q.imp (fun q => s1 _ _ q) fun q => s1 _ _ q), gd, fun H' ⟨T, refs', a, b, c⟩ kp => kk H' (fun c' o e => kp c' o (s1 _ _ e) (ne_of_none e nx)) ⟨dx, T, refs', a, b, c⟩⟩
theorem SetAt.kp {C : Addr} {H H' : Hp} {p a l : Addr} {n : Nat} {ls : List Ln} (m : SetAt C H p ls) (S : StreamAt H a l n) (k : Keep a l H H') : SetAt C H' p ls := by
  obtain ⟨dx, T, refs, h1, h2, h3⟩ := m
  have S0 := S
  obtain ⟨ne, ns, x, z, g1, g2, _⟩ := S
  exact ⟨dx, T, refs, k _ _ (ne_of h1 g1 (by intro z; cases z)) (ne_of h1 g2 (by intro z; cases z)) h1, k _ _ (ne_of h2 g1 (by intro z; cases z)) (ne_of h2 g2 (by intro z; cases z)) h2, EaKp h3 S0 k⟩
theorem Two.bls {K : PySem.W.Frag} {H : Hp} {n : Nat} {a b : Addr} {xs : List V} (ha : H a = some (.lst xs)) (hb : H b = some (.lst xs)) (hz : xs.length ≤ sizeLine) (f : ∀ x ∈ xs, ∃ c, x = .bl c) : Two K H (n + 1) (.ref a) (.ref b) := by
  refine .lst ha hb rfl hz fun i x y h1 h2 => ?_
  rw [h1] at h2
  cases h2
  obtain ⟨c, rfl⟩ := f x (List.mem_of_getElem? h1)
  exact .bl _ _
structure Prog (K : PySem.W.Frag) (mg : Str → Option Value) (C fCI Fo g1 g2 g3 g4 gF gJ gI fEq fNe fLe fGe fLt fGt fDraw fStart fMixed fSame fEntry fLines fWith fNear : Addr) (dCI d1 d2 d3 d4 dF dJ dI dEq dNe dLe dGe dLt dGt dDraw dStart dMixed dSame dEntry dLines dWith dNear : FuncData) : Prop where
  T : Txt K mg
  TC : TxtC K mg C Fo
  TI : TxtI K C
  CI : Fun K "__init__" "RowSet.__init__" sInit fCI dCI
  CM : Mk K C fCI
  Cb : Binds K dCI ["self", "rows"] []
  isInt : Df K mg "is_integer" sIsInt g1 d1 ["value"]
  below : Df K mg "is_below" sBelow g2 d2 ["value", "count"]
  isRow : Df K mg "_is_row" sIsRow g3 d3 ["row", "count"]
  check : Df K mg "_check_rows" sCheck g4 d4 ["rows"]
  fol : Df K mg "_following" sFol gF dF ["first", "second", "pair", "at", "either"]
  join : Df K mg "joined" sJoin gJ dJ ["first", "second", "either"]
  inn : Df K mg "_is_within" sIn gI dI ["first", "second"]
  FEq : Fun K "__eq__" "RowSet.__eq__" sEq fEq dEq
  bEq : Binds K dEq ["self", "other"] []
  OEq : OwnC K C fEq .Eq
  FNe : Fun K "__ne__" "RowSet.__ne__" sNe fNe dNe
  bNe : Binds K dNe ["self", "other"] []
  ONe : OwnC K C fNe .NotEq
  FLe : Fun K "__le__" "RowSet.__le__" sLe fLe dLe
  bLe : Binds K dLe ["self", "other"] []
  OLe : OwnC K C fLe .LtE
  FGe : Fun K "__ge__" "RowSet.__ge__" sGe fGe dGe
  bGe : Binds K dGe ["self", "other"] []
  OGe : OwnC K C fGe .GtE
  FLt : Fun K "__lt__" "RowSet.__lt__" sLt fLt dLt
  bLt : Binds K dLt ["self", "other"] []
  OLt : OwnC K C fLt .Lt
  FGt : Fun K "__gt__" "RowSet.__gt__" sGt fGt dGt
  bGt : Binds K dGt ["self", "other"] []
  OGt : OwnC K C fGt .Gt
  draw : Df K mg "_law_draw" sDraw fDraw dDraw ["_law_stream", "_law_many"]
  start : Df K mg "_law_start" sStart fStart dStart ["_law_script"]
  mixed : Df K mg "_law_mixed" sMixed fMixed dMixed ["_law_stream", "_law_some"]
  same : Df K mg "_law_same" sSame fSame dSame ["_law_found", "_law_due"]
  entry : Df K mg "_law_m_entry" sEntry fEntry dEntry ["_law_stream", "_law_size"]
  lines : Df K mg "_law_m_lines" sLines fLines dLines ["_law_stream", "_law_most"]
  within : Df K mg "_law_m_within" sWithin fWith dWith ["_law_one", "_law_other"]
  near : Df K mg "_law_near" sNear fNear dNear ["_law_stream", "_law_lines"]
def spLaw (K : PySem.W.Frag) : Sp := fun vs H Q _ => ∃ (a : Addr) (ns : List Int), vs = [.ref a] ∧ SqL K H a (ns.map V.int) ∧ ns.length ≤ 63 ∧ ∀ H', Q (.bl true) H'
section
variable {P : Program} {w : World} {K : PySem.W.Frag} {mg : Str → Option Value} {base : Heap} {C : Addr}
theorem scLaw : FnScope NLawM ["_law_script"] (defScope sLaw) := ⟨rfl, rfl, rfl, by decide +kernel, rfl, by decide +kernel, by decide +kernel⟩
theorem ok_law {f fCI Fo g1 g2 g3 g4 gF gJ gI fEq fNe fLe fGe fLt fGt fDraw fStart fMixed fSame fEntry fLines fWith fNear : Addr} {fd dCI d1 d2 d3 d4 dF dJ dI dEq dNe dLe dGe dLt dGt dDraw dStart dMixed dSame dEntry dLines dWith dNear : FuncData} (F : Fun K "law" "law" sLaw f fd)
    (G : Prog K mg C fCI Fo g1 g2 g3 g4 gF gJ gI fEq fNe fLe fGe fLt fGt fDraw fStart fMixed fSame fEntry fLines fWith fNear dCI d1 d2 d3 d4 dF dJ dI dEq dNe dLe dGe dLt dGt dDraw dStart dMixed dSame dEntry dLines dWith dNear) : FnOk P w K mg base CX0 7 f fd ["_law_script"] (spLaw K) := by
  have T := G.T
  have TC := G.TC
  have GI : FnOk P w K mg base CX0 5 fCI dCI ["self", "rows"] (spInit K C) := ok_init G.CI T TC G.isInt G.below G.isRow G.check
  have GStart : FnOk P w K mg base CX0 1 fStart dStart ["_law_script"] (spStart K) := ok_start G.start.F T
  have GLines : FnOk P w K mg base CX0 3 fLines dLines ["_law_stream", "_law_most"] spLines := ok_lines G.lines.F T G.draw G.entry
  have GNear : FnOk P w K mg base CX0 4 fNear dNear ["_law_stream", "_law_lines"] spNear := ok_near G.near.F T G.draw G.entry G.lines G.mixed
  have GWith : FnOk P w K mg base CX0 1 fWith dWith ["_law_one", "_law_other"] spWith := ok_with G.within.F T
  have GSame : FnOk P w K mg base CX0 2 fSame dSame ["_law_found", "_law_due"] (spSame K 1) := ok_same G.same T 1
  have GEq : FnOk P w K mg base CX0 4 fEq dEq ["self", "other"] (spCmp C rEq) := ok_eq G.FEq T TC G.TI G.fol G.join G.inn
  have GNe : FnOk P w K mg base CX0 4 fNe dNe ["self", "other"] (spCmp C rNe) := ok_ne G.FNe T TC G.TI G.fol G.join G.inn
  have GLe : FnOk P w K mg base CX0 4 fLe dLe ["self", "other"] (spCmp C rLe) := ok_le G.FLe T TC G.TI G.fol G.join G.inn
  have GGe : FnOk P w K mg base CX0 4 fGe dGe ["self", "other"] (spCmp C rGe) := ok_ge G.FGe T TC G.TI G.fol G.join G.inn
  have GLt : FnOk P w K mg base CX0 4 fLt dLt ["self", "other"] (spCmp C rLt) := ok_lt G.FLt T TC G.TI G.fol G.join G.inn
  have GGt : FnOk P w K mg base CX0 4 fGt dGt ["self", "other"] (spCmp C rGt) := ok_gt G.FGt T TC G.TI G.fol G.join G.inn
  refine F.ok scLaw (fun vs H Q E h => ?_) (fun cdv A0 outer s H vs Q E hr h => ?_)
  · obtain ⟨a, ns, rfl, _⟩ := h
    rfl
  · obtain ⟨a, ns, rfl, hS, hlen, kk⟩ := h
    have hr1 : Room 1 _ := hr.mono (by decide)
    have hr2 : Room 2 _ := hr.mono (by decide)
    have hr3 : Room 3 _ := hr.mono (by decide)
    have hr4 : Room 4 _ := hr.mono (by decide)
    have hr6 : Room 6 _ := hr
    refine ⟨_, pss_cons (ps_set (i := 1) scLaw.nd rfl (Or.inl rfl) (pe_call GStart hr1 rfl G.start.M G.start.F.kp G.start.B .nil pass0 (pa_cons (pv 0) pa_nil)))
      (pss_cons (ps_set (i := 2) scLaw.nd rfl (Or.inl rfl) (pe_call GLines hr3 rfl G.lines.M G.lines.F.kp G.lines.B .nil pass0 (pa_cons (pv 1) (pa_cons pe_int pa_nil))))
      (pss_cons (ps_set (i := 3) scLaw.nd rfl (Or.inl rfl) (pe_call GNear hr4 rfl G.near.M G.near.F.kp G.near.B .nil pass0 (pa_cons (pv 1) (pa_cons (pv 2) pa_nil))))
      (pss_cons (ps_par (i := 4) (j := 5) (by rfl) scLaw.nd rfl rfl (by decide) rfl rfl (pa_cons (pe_make (E := E0) G.CM GI hr6 rfl TC.mgC G.Cb .nil pass0 (pa_cons (pv 2) pa_nil)) (pa_cons (pe_make (E := E0) G.CM GI hr6 rfl TC.mgC G.Cb .nil pass0 (pa_cons (pv 3) pa_nil)) pa_nil)) (by rfl))
      (pss_cons (ps_par (i := 6) (j := 7) (by rfl) scLaw.nd rfl rfl (by decide) rfl rfl (pa_cons (pe_call GWith hr1 rfl G.within.M G.within.F.kp G.within.B .nil pass0 (pa_cons (pv 2) (pa_cons (pv 3) pa_nil))) (pa_cons (pe_call GWith hr1 rfl G.within.M G.within.F.kp G.within.B .nil pass0 (pa_cons (pv 3) (pa_cons (pv 2) pa_nil))) pa_nil)) (by rfl))
      (pss_cons (ps_set (i := 8) scLaw.nd rfl (Or.inl rfl) (pe_lst (pa_cons (pe_cmpR (op_ownC (E := E0) G.OLe GLe hr4 G.bLe pass0) (pv 4) (pv 5) (nomark _)) (pa_cons (pe_cmpR (op_ownC (E := E0) G.OGe GGe hr4 G.bGe pass0) (pv 4) (pv 5) (nomark _)) (pa_cons (pe_cmpR (op_ownC (E := E0) G.OLt GLt hr4 G.bLt pass0) (pv 4) (pv 5) (nomark _)) (pa_cons (pe_cmpR (op_ownC (E := E0) G.OGt GGt hr4 G.bGt pass0) (pv 4) (pv 5) (nomark _)) (pa_cons (pe_cmpR (op_ownC (E := E0) G.OEq GEq hr4 G.bEq pass0) (pv 4) (pv 5) (nomark _)) (pa_cons (pe_cmpR (op_ownC (E := E0) G.ONe GNe hr4 G.bNe pass0) (pv 4) (pv 5) (nomark _)) pa_nil))))))))
      (pss_cut (ps_set (i := 9) scLaw.nd rfl (Or.inl rfl) (pe_lst (pa_cons (pv 6) (pa_cons (pv 7) (pa_cons (pe_and (pv 6) (pe_one (pe_not (pv 7)))) (pa_cons (pe_and (pv 7) (pe_one (pe_not (pv 6)))) (pa_cons (pe_and (pv 6) (pe_one (pv 7))) (pa_cons (pe_not (pe_and (pv 6) (pe_one (pv 7)))) pa_nil))))))))
      (pss_cons (ps_if (pt_not (pt_val (pe_call GSame hr2 rfl G.same.M G.same.F.kp G.same.B .nil pass0 (pa_cons (pv 8) (pa_cons (pv 9) pa_nil))))) pss_never pss_nil)
      (pss_cons (ps_set (i := 8) scLaw.nd rfl (Or.inl rfl) (pe_lst (pa_cons (pe_cmpR (op_ownC (E := E0) G.OLe GLe hr4 G.bLe pass0) (pv 5) (pv 4) (nomark _)) (pa_cons (pe_cmpR (op_ownC (E := E0) G.OGe GGe hr4 G.bGe pass0) (pv 5) (pv 4) (nomark _)) (pa_cons (pe_cmpR (op_ownC (E := E0) G.OLt GLt hr4 G.bLt pass0) (pv 5) (pv 4) (nomark _)) (pa_cons (pe_cmpR (op_ownC (E := E0) G.OGt GGt hr4 G.bGt pass0) (pv 5) (pv 4) (nomark _)) (pa_cons (pe_cmpR (op_ownC (E := E0) G.OEq GEq hr4 G.bEq pass0) (pv 5) (pv 4) (nomark _)) (pa_cons (pe_cmpR (op_ownC (E := E0) G.ONe GNe hr4 G.bNe pass0) (pv 5) (pv 4) (nomark _)) pa_nil))))))))
      (pss_cut (ps_set (i := 9) scLaw.nd rfl (Or.inl rfl) (pe_lst (pa_cons (pv 7) (pa_cons (pv 6) (pa_cons (pe_and (pv 7) (pe_one (pe_not (pv 6)))) (pa_cons (pe_and (pv 6) (pe_one (pe_not (pv 7)))) (pa_cons (pe_and (pv 6) (pe_one (pv 7))) (pa_cons (pe_not (pe_and (pv 6) (pe_one (pv 7)))) pa_nil))))))))
      (pss_cons (ps_if (pt_not (pt_val (pe_call GSame hr2 rfl G.same.M G.same.F.kp G.same.B .nil pass0 (pa_cons (pv 8) (pa_cons (pv 9) pa_nil))))) pss_never pss_nil)
      (pss_one (ps_ret (pe_call GSame hr2 rfl G.same.M G.same.F.kp G.same.B .nil pass0 (pa_cons (pe_lst (pa_cons (pe_cmpR (op_ownC (E := E0) G.OLe GLe hr4 G.bLe pass0) (pv 4) (pv 4) (nomark _)) (pa_cons (pe_cmpR (op_ownC (E := E0) G.OEq GEq hr4 G.bEq pass0) (pv 4) (pv 4) (nomark _)) (pa_cons (pe_cmpR (op_ownC (E := E0) G.OLt GLt hr4 G.bLt pass0) (pv 4) (pv 4) (nomark _)) (pa_cons (pe_cmpR (op_ownC (E := E0) G.OGt GGt hr4 G.bGt pass0) (pv 4) (pv 4) (nomark _)) pa_nil))))) (pa_cons (pe_lst (pa_cons pe_bl (pa_cons pe_bl (pa_cons pe_bl (pa_cons pe_bl pa_nil))))) pa_nil))))))))))))))), ?_⟩
    refine ⟨_, rfl, a, ns, rfl, hS, hlen, fun sa sl H1 S1 _ _ _ => ?_⟩
    refine ⟨_, rfl, sa, sl, 0, 7, rfl, S1, by decide, by decide, by decide, fun L1 refs1 A n1 H2 hL1 _ La Ll eA gA lA S2 hn1 k2 => ?_⟩
    refine ⟨_, rfl, _, rfl, sa, sl, L1, n1, refs1, A, rfl, S2, by omega, hL1, La, Ll, eA, gA, by omega, fun L2 refs2 B n2 H3 hL2 _ _ eB gB lB S3 _ k3 => ?_⟩
    have hL1 := k3 _ _ La Ll hL1
    have eA := EaKp eA S2 k3
    have oA := good_ok gA
    have oB := good_ok gB
    have lA : A.length ≤ 10 := by omega
    have lB : B.length ≤ 10 := by omega
    clear S1 S2 S3 k2 k3 hS
    refine ⟨_, rfl, fun x dx nx ndx nex => mk_set (.inl hL1) (eA.imp fun c r q => .inl q) gA nx ndx nex fun H4 s4 hx4 => ⟨rfl, ?_⟩⟩
    refine ⟨_, rfl, fun y dy ny ndy ney => mk_set (.inl (s4 _ _ hL2)) ((eB.same s4).imp fun c r q => .inl q) gB ny ndy ney fun H5 s5 hy5 => ⟨rfl, _, _, rfl, ?_⟩⟩
    have hx5 := hx4.same s5
    have t5 := s4.trans s5
    refine ⟨_, rfl, _, rfl, L1, L2, refs1, refs2, A, B, rfl, t5 _ _ hL1, eA.same t5, t5 _ _ hL2, eB.same t5, oA, oB, lA, lB, fun w1 H6 s6 h1 => ?_⟩
    have t6 := t5.trans s6
    refine ⟨_, rfl, _, rfl, L2, L1, refs2, refs1, B, A, rfl, t6 _ _ hL2, eB.same t6, t6 _ _ hL1, eA.same t6, oB, oA, lB, lA, fun w2 H7 s7 h2 => ⟨_, _, rfl, ?_⟩⟩
    have sx : SetAt C H7 x A := (hx5.same s6).same s7
    have sy : SetAt C H7 y B := (hy5.same s6).same s7
    clear hx4 hx5 hy5 t5 t6 s4 s5 s6 s7 eA eB hL1 hL2
    have t0 : Same H7 H7 := fun _ _ h => h
    obtain ⟨dx0, _, _, hx0, _⟩ := id (sx.same t0)
    obtain ⟨dy0, _, _, hy0, _⟩ := id (sy.same t0)
    refine ⟨_, rfl, _, rfl, x, dx0, _, rfl, hx0, .inr ⟨y, dy0, _, rfl, hy0⟩, x, y, A, B, rfl, sx.same t0, sy.same t0, oA, oB, lA, lB, fun c1 c2 G0 s0 i1 i2 => ?_⟩
    have e1 : w1 = c1 := Bool.eq_iff_iff.mpr (h1.trans i1.symm)
    subst e1
    have e2 : w2 = c2 := Bool.eq_iff_iff.mpr (h2.trans i2.symm)
    subst e2
    have t1 := t0.trans s0
    clear i1 i2 hx0 hy0
    obtain ⟨dx1, _, _, hx1, _⟩ := id (sx.same t1)
    obtain ⟨dy1, _, _, hy1, _⟩ := id (sy.same t1)
    refine ⟨_, rfl, _, rfl, x, dx1, _, rfl, hx1, .inr ⟨y, dy1, _, rfl, hy1⟩, x, y, A, B, rfl, sx.same t1, sy.same t1, oA, oB, lA, lB, fun c1 c2 G1 s1 i1 i2 => ?_⟩
    have e1 : w1 = c1 := Bool.eq_iff_iff.mpr (h1.trans i1.symm)
    subst e1
    have e2 : w2 = c2 := Bool.eq_iff_iff.mpr (h2.trans i2.symm)
    subst e2
    have t2 := t1.trans s1
    clear i1 i2 hx1 hy1
    obtain ⟨dx2, _, _, hx2, _⟩ := id (sx.same t2)
    obtain ⟨dy2, _, _, hy2, _⟩ := id (sy.same t2)
    refine ⟨_, rfl, _, rfl, x, dx2, _, rfl, hx2, .inr ⟨y, dy2, _, rfl, hy2⟩, x, y, A, B, rfl, sx.same t2, sy.same t2, oA, oB, lA, lB, fun c1 c2 G2 s2 i1 i2 => ?_⟩
    have e1 : w1 = c1 := Bool.eq_iff_iff.mpr (h1.trans i1.symm)
    subst e1
    have e2 : w2 = c2 := Bool.eq_iff_iff.mpr (h2.trans i2.symm)
    subst e2
    have t3 := t2.trans s2
    clear i1 i2 hx2 hy2
    obtain ⟨dx3, _, _, hx3, _⟩ := id (sx.same t3)
    obtain ⟨dy3, _, _, hy3, _⟩ := id (sy.same t3)
    refine ⟨_, rfl, _, rfl, x, dx3, _, rfl, hx3, .inr ⟨y, dy3, _, rfl, hy3⟩, x, y, A, B, rfl, sx.same t3, sy.same t3, oA, oB, lA, lB, fun c1 c2 G3 s3 i1 i2 => ?_⟩
    have e1 : w1 = c1 := Bool.eq_iff_iff.mpr (h1.trans i1.symm)
    subst e1
    have e2 : w2 = c2 := Bool.eq_iff_iff.mpr (h2.trans i2.symm)
    subst e2
    have t4 := t3.trans s3
    clear i1 i2 hx3 hy3
    obtain ⟨dx4, _, _, hx4, _⟩ := id (sx.same t4)
    obtain ⟨dy4, _, _, hy4, _⟩ := id (sy.same t4)
    refine ⟨_, rfl, _, rfl, x, dx4, _, rfl, hx4, .inr ⟨y, dy4, _, rfl, hy4⟩, x, y, A, B, rfl, sx.same t4, sy.same t4, oA, oB, lA, lB, fun c1 c2 G4 s4 i1 i2 => ?_⟩
    have e1 : w1 = c1 := Bool.eq_iff_iff.mpr (h1.trans i1.symm)
    subst e1
    have e2 : w2 = c2 := Bool.eq_iff_iff.mpr (h2.trans i2.symm)
    subst e2
    have t5 := t4.trans s4
    clear i1 i2 hx4 hy4
    obtain ⟨dx5, _, _, hx5, _⟩ := id (sx.same t5)
    obtain ⟨dy5, _, _, hy5, _⟩ := id (sy.same t5)
    refine ⟨_, rfl, _, rfl, x, dx5, _, rfl, hx5, .inr ⟨y, dy5, _, rfl, hy5⟩, x, y, A, B, rfl, sx.same t5, sy.same t5, oA, oB, lA, lB, fun c1 c2 G5 s5 i1 i2 => ?_⟩
    have e1 : w1 = c1 := Bool.eq_iff_iff.mpr (h1.trans i1.symm)
    subst e1
    have e2 : w2 = c2 := Bool.eq_iff_iff.mpr (h2.trans i2.symm)
    subst e2
    have t6 := t5.trans s5
    clear i1 i2 hx5 hy5
    refine ⟨by show 6 ≤ sizeLine; decide, fun F1 hF1 => ?_⟩
    have u1 := new_ (o := .lst [V.bl (rLe w1 w2), V.bl (rGe w1 w2), V.bl (rLt w1 w2), V.bl (rGt w1 w2), V.bl (rEq w1 w2), V.bl (rNe w1 w2)]) hF1
    have hfl1 : [V.bl (rLe w1 w2), V.bl (rGe w1 w2), V.bl (rLt w1 w2), V.bl (rGt w1 w2), V.bl (rEq w1 w2), V.bl (rNe w1 w2)] = ([w1, w2, w1 && !w2, w2 && !w1, w1 && w2, !(w1 && w2)] : List Bool).map V.bl := by cases w1 <;> cases w2 <;> rfl
    have gF1 : (upd G5 F1 (.lst [V.bl (rLe w1 w2), V.bl (rGe w1 w2), V.bl (rLt w1 w2), V.bl (rGt w1 w2), V.bl (rEq w1 w2), V.bl (rNe w1 w2)])) F1 = some (.lst (([w1, w2, w1 && !w2, w2 && !w1, w1 && w2, !(w1 && w2)] : List Bool).map V.bl)) := by rw [← hfl1]; exact upd_same
    generalize (upd G5 F1 (.lst [V.bl (rLe w1 w2), V.bl (rGe w1 w2), V.bl (rLt w1 w2), V.bl (rGt w1 w2), V.bl (rEq w1 w2), V.bl (rNe w1 w2)])) = HF1 at u1 gF1 ⊢
    refine ⟨fun σ' H' => ∃ Du, σ' = [some (.ref a), some (.ref sa), some (.ref L1), some (.ref L2), some (.ref x), some (.ref y), some (.bl w1), some (.bl w2), some (.ref F1), some (.ref Du)] ∧ Same HF1 H' ∧ H' Du = some (.lst (([w1, w2, w1 && !w2, w2 && !w1, w1 && w2, !(w1 && w2)] : List Bool).map V.bl)), ?_, ?_⟩
    · have fin : ∀ b1 b2 b3 b4 b5 b6 : Bool, [b1, b2, b3, b4, b5, b6] = [w1, w2, w1 && !w2, w2 && !w1, w1 && w2, !(w1 && w2)] → 6 ≤ sizeLine ∧ ∀ p, HF1 p = none → ∃ Du, [some (.ref a), some (.ref sa), some (.ref L1), some (.ref L2), some (.ref x), some (.ref y), some (.bl w1), some (.bl w2), some (.ref F1), some (V.ref p)] = [some (.ref a), some (.ref sa), some (.ref L1), some (.ref L2), some (.ref x), some (.ref y), some (.bl w1), some (.bl w2), some (.ref F1), some (.ref Du)] ∧ Same HF1 (upd HF1 p (.lst [.bl b1, .bl b2, .bl b3, .bl b4, .bl b5, .bl b6])) ∧ (upd HF1 p (.lst [.bl b1, .bl b2, .bl b3, .bl b4, .bl b5, .bl b6])) Du = some (.lst (([w1, w2, w1 && !w2, w2 && !w1, w1 && w2, !(w1 && w2)] : List Bool).map V.bl)) := by
        intro b1 b2 b3 b4 b5 b6 e
        refine ⟨by decide, fun p hp => ⟨p, rfl, new_ hp, ?_⟩⟩
        rw [← e]
        exact upd_same
      refine ⟨_, rfl, _, rfl, ?_⟩
      clear gF1 hfl1 u1
      revert fin
      clear h1 h2
      cases w1 <;> cases w2 <;> intro fin
      all_goals
        refine ⟨_, rfl, _, rfl, ?_⟩
        first | refine iteT ⟨_, rfl, _, rfl, ?_⟩ | refine iteF ?_
        refine ⟨_, rfl, _, rfl, ?_⟩
        first | refine iteT ⟨_, rfl, _, rfl, ?_⟩ | refine iteF ?_
        refine ⟨_, rfl, _, rfl, ?_⟩
        first | refine iteT ⟨_, rfl, ?_⟩ | refine iteF ?_
        refine ⟨_, rfl, _, rfl, ?_⟩
        first | refine iteT ⟨_, rfl, _, rfl, ?_⟩ | refine iteF ⟨_, rfl, ?_⟩
        exact fin _ _ _ _ _ _ rfl
    rintro _ HD1 ⟨D1, rfl, sD1, gD1⟩
    refine ⟨_, rfl, _, rfl, .ref F1, .ref D1, rfl, .bls (sD1 _ _ gF1) gD1 (by show 6 ≤ sizeLine; decide) (fun v hv => ?_), fun HS1 sS1 => ⟨_, rfl, iteF ?_⟩⟩
    · obtain ⟨b, _, rfl⟩ := List.mem_map.mp hv
      exact ⟨b, rfl⟩
    have t7 := ((t6.trans u1).trans sD1).trans sS1
    obtain ⟨dx7, _, _, hx7, _⟩ := id (sy.same t7)
    obtain ⟨dy7, _, _, hy7, _⟩ := id (sx.same t7)
    refine ⟨_, rfl, _, rfl, y, dx7, _, rfl, hx7, .inr ⟨x, dy7, _, rfl, hy7⟩, y, x, B, A, rfl, sy.same t7, sx.same t7, oB, oA, lB, lA, fun c1 c2 G7 s7 i1 i2 => ?_⟩
    have e1 : w2 = c1 := Bool.eq_iff_iff.mpr (h2.trans i1.symm)
    subst e1
    have e2 : w1 = c2 := Bool.eq_iff_iff.mpr (h1.trans i2.symm)
    subst e2
    have t8 := t7.trans s7
    clear i1 i2 hx7 hy7
    obtain ⟨dx8, _, _, hx8, _⟩ := id (sy.same t8)
    obtain ⟨dy8, _, _, hy8, _⟩ := id (sx.same t8)
    refine ⟨_, rfl, _, rfl, y, dx8, _, rfl, hx8, .inr ⟨x, dy8, _, rfl, hy8⟩, y, x, B, A, rfl, sy.same t8, sx.same t8, oB, oA, lB, lA, fun c1 c2 G8 s8 i1 i2 => ?_⟩
    have e1 : w2 = c1 := Bool.eq_iff_iff.mpr (h2.trans i1.symm)
    subst e1
    have e2 : w1 = c2 := Bool.eq_iff_iff.mpr (h1.trans i2.symm)
    subst e2
    have t9 := t8.trans s8
    clear i1 i2 hx8 hy8
    obtain ⟨dx9, _, _, hx9, _⟩ := id (sy.same t9)
    obtain ⟨dy9, _, _, hy9, _⟩ := id (sx.same t9)
    refine ⟨_, rfl, _, rfl, y, dx9, _, rfl, hx9, .inr ⟨x, dy9, _, rfl, hy9⟩, y, x, B, A, rfl, sy.same t9, sx.same t9, oB, oA, lB, lA, fun c1 c2 G9 s9 i1 i2 => ?_⟩
    have e1 : w2 = c1 := Bool.eq_iff_iff.mpr (h2.trans i1.symm)
    subst e1
    have e2 : w1 = c2 := Bool.eq_iff_iff.mpr (h1.trans i2.symm)
    subst e2
    have t10 := t9.trans s9
    clear i1 i2 hx9 hy9
    obtain ⟨dx10, _, _, hx10, _⟩ := id (sy.same t10)
    obtain ⟨dy10, _, _, hy10, _⟩ := id (sx.same t10)
    refine ⟨_, rfl, _, rfl, y, dx10, _, rfl, hx10, .inr ⟨x, dy10, _, rfl, hy10⟩, y, x, B, A, rfl, sy.same t10, sx.same t10, oB, oA, lB, lA, fun c1 c2 G10 s10 i1 i2 => ?_⟩
    have e1 : w2 = c1 := Bool.eq_iff_iff.mpr (h2.trans i1.symm)
    subst e1
    have e2 : w1 = c2 := Bool.eq_iff_iff.mpr (h1.trans i2.symm)
    subst e2
    have t11 := t10.trans s10
    clear i1 i2 hx10 hy10
    obtain ⟨dx11, _, _, hx11, _⟩ := id (sy.same t11)
    obtain ⟨dy11, _, _, hy11, _⟩ := id (sx.same t11)
    refine ⟨_, rfl, _, rfl, y, dx11, _, rfl, hx11, .inr ⟨x, dy11, _, rfl, hy11⟩, y, x, B, A, rfl, sy.same t11, sx.same t11, oB, oA, lB, lA, fun c1 c2 G11 s11 i1 i2 => ?_⟩
    have e1 : w2 = c1 := Bool.eq_iff_iff.mpr (h2.trans i1.symm)
    subst e1
    have e2 : w1 = c2 := Bool.eq_iff_iff.mpr (h1.trans i2.symm)
    subst e2
    have t12 := t11.trans s11
    clear i1 i2 hx11 hy11
    obtain ⟨dx12, _, _, hx12, _⟩ := id (sy.same t12)
    obtain ⟨dy12, _, _, hy12, _⟩ := id (sx.same t12)
    refine ⟨_, rfl, _, rfl, y, dx12, _, rfl, hx12, .inr ⟨x, dy12, _, rfl, hy12⟩, y, x, B, A, rfl, sy.same t12, sx.same t12, oB, oA, lB, lA, fun c1 c2 G12 s12 i1 i2 => ?_⟩
    have e1 : w2 = c1 := Bool.eq_iff_iff.mpr (h2.trans i1.symm)
    subst e1
    have e2 : w1 = c2 := Bool.eq_iff_iff.mpr (h1.trans i2.symm)
    subst e2
    have t13 := t12.trans s12
    clear i1 i2 hx12 hy12
    refine ⟨by show 6 ≤ sizeLine; decide, fun F2 hF2 => ?_⟩
    have u2 := new_ (o := .lst [V.bl (rLe w2 w1), V.bl (rGe w2 w1), V.bl (rLt w2 w1), V.bl (rGt w2 w1), V.bl (rEq w2 w1), V.bl (rNe w2 w1)]) hF2
    have hfl2 : [V.bl (rLe w2 w1), V.bl (rGe w2 w1), V.bl (rLt w2 w1), V.bl (rGt w2 w1), V.bl (rEq w2 w1), V.bl (rNe w2 w1)] = ([w2, w1, w2 && !w1, w1 && !w2, w1 && w2, !(w1 && w2)] : List Bool).map V.bl := by cases w1 <;> cases w2 <;> rfl
    have gF2 : (upd G12 F2 (.lst [V.bl (rLe w2 w1), V.bl (rGe w2 w1), V.bl (rLt w2 w1), V.bl (rGt w2 w1), V.bl (rEq w2 w1), V.bl (rNe w2 w1)])) F2 = some (.lst (([w2, w1, w2 && !w1, w1 && !w2, w1 && w2, !(w1 && w2)] : List Bool).map V.bl)) := by rw [← hfl2]; exact upd_same
    generalize (upd G12 F2 (.lst [V.bl (rLe w2 w1), V.bl (rGe w2 w1), V.bl (rLt w2 w1), V.bl (rGt w2 w1), V.bl (rEq w2 w1), V.bl (rNe w2 w1)])) = HF2 at u2 gF2 ⊢
    refine ⟨fun σ' H' => ∃ Du, σ' = [some (.ref a), some (.ref sa), some (.ref L1), some (.ref L2), some (.ref x), some (.ref y), some (.bl w1), some (.bl w2), some (.ref F2), some (.ref Du)] ∧ Same HF2 H' ∧ H' Du = some (.lst (([w2, w1, w2 && !w1, w1 && !w2, w1 && w2, !(w1 && w2)] : List Bool).map V.bl)), ?_, ?_⟩
    · have fin : ∀ b1 b2 b3 b4 b5 b6 : Bool, [b1, b2, b3, b4, b5, b6] = [w2, w1, w2 && !w1, w1 && !w2, w1 && w2, !(w1 && w2)] → 6 ≤ sizeLine ∧ ∀ p, HF2 p = none → ∃ Du, [some (.ref a), some (.ref sa), some (.ref L1), some (.ref L2), some (.ref x), some (.ref y), some (.bl w1), some (.bl w2), some (.ref F2), some (V.ref p)] = [some (.ref a), some (.ref sa), some (.ref L1), some (.ref L2), some (.ref x), some (.ref y), some (.bl w1), some (.bl w2), some (.ref F2), some (.ref Du)] ∧ Same HF2 (upd HF2 p (.lst [.bl b1, .bl b2, .bl b3, .bl b4, .bl b5, .bl b6])) ∧ (upd HF2 p (.lst [.bl b1, .bl b2, .bl b3, .bl b4, .bl b5, .bl b6])) Du = some (.lst (([w2, w1, w2 && !w1, w1 && !w2, w1 && w2, !(w1 && w2)] : List Bool).map V.bl)) := by
        intro b1 b2 b3 b4 b5 b6 e
        refine ⟨by decide, fun p hp => ⟨p, rfl, new_ hp, ?_⟩⟩
        rw [← e]
        exact upd_same
      refine ⟨_, rfl, _, rfl, ?_⟩
      clear gF2 hfl2 u2
      revert fin
      clear h1 h2
      cases w1 <;> cases w2 <;> intro fin
      all_goals
        refine ⟨_, rfl, _, rfl, ?_⟩
        first | refine iteT ⟨_, rfl, _, rfl, ?_⟩ | refine iteF ?_
        refine ⟨_, rfl, _, rfl, ?_⟩
        first | refine iteT ⟨_, rfl, _, rfl, ?_⟩ | refine iteF ?_
        refine ⟨_, rfl, _, rfl, ?_⟩
        first | refine iteT ⟨_, rfl, ?_⟩ | refine iteF ?_
        refine ⟨_, rfl, _, rfl, ?_⟩
        first | refine iteT ⟨_, rfl, _, rfl, ?_⟩ | refine iteF ⟨_, rfl, ?_⟩
        exact fin _ _ _ _ _ _ rfl
    rintro _ HD2 ⟨D2, rfl, sD2, gD2⟩
    refine ⟨_, rfl, _, rfl, .ref F2, .ref D2, rfl, .bls (sD2 _ _ gF2) gD2 (by show 6 ≤ sizeLine; decide) (fun v hv => ?_), fun HS2 sS2 => ⟨_, rfl, iteF ?_⟩⟩
    · obtain ⟨b, _, rfl⟩ := List.mem_map.mp hv
      exact ⟨b, rfl⟩
    have t14 := ((t13.trans u2).trans sD2).trans sS2
    obtain ⟨dx14, _, _, hx14, _⟩ := id (sx.same t14)
    obtain ⟨dy14, _, _, hy14, _⟩ := id (sx.same t14)
    refine ⟨_, rfl, _, rfl, x, dx14, _, rfl, hx14, .inr ⟨x, dy14, _, rfl, hy14⟩, x, x, A, A, rfl, sx.same t14, sx.same t14, oA, oA, lA, lA, fun c1 c2 G14 s14 i1 i2 => ?_⟩
    have e1 : true = c1 := (i1.mpr (JM.wi_refl A)).symm
    subst e1
    have e2 : true = c2 := (i2.mpr (JM.wi_refl A)).symm
    subst e2
    have t15 := t14.trans s14
    clear i1 i2 hx14 hy14
    obtain ⟨dx15, _, _, hx15, _⟩ := id (sx.same t15)
    obtain ⟨dy15, _, _, hy15, _⟩ := id (sx.same t15)
    refine ⟨_, rfl, _, rfl, x, dx15, _, rfl, hx15, .inr ⟨x, dy15, _, rfl, hy15⟩, x, x, A, A, rfl, sx.same t15, sx.same t15, oA, oA, lA, lA, fun c1 c2 G15 s15 i1 i2 => ?_⟩
    have e1 : true = c1 := (i1.mpr (JM.wi_refl A)).symm
    subst e1
    have e2 : true = c2 := (i2.mpr (JM.wi_refl A)).symm
    subst e2
    have t16 := t15.trans s15
    clear i1 i2 hx15 hy15
    obtain ⟨dx16, _, _, hx16, _⟩ := id (sx.same t16)
    obtain ⟨dy16, _, _, hy16, _⟩ := id (sx.same t16)
    refine ⟨_, rfl, _, rfl, x, dx16, _, rfl, hx16, .inr ⟨x, dy16, _, rfl, hy16⟩, x, x, A, A, rfl, sx.same t16, sx.same t16, oA, oA, lA, lA, fun c1 c2 G16 s16 i1 i2 => ?_⟩
    have e1 : true = c1 := (i1.mpr (JM.wi_refl A)).symm
    subst e1
    have e2 : true = c2 := (i2.mpr (JM.wi_refl A)).symm
    subst e2
    have t17 := t16.trans s16
    clear i1 i2 hx16 hy16
    obtain ⟨dx17, _, _, hx17, _⟩ := id (sx.same t17)
    obtain ⟨dy17, _, _, hy17, _⟩ := id (sx.same t17)
    refine ⟨_, rfl, _, rfl, x, dx17, _, rfl, hx17, .inr ⟨x, dy17, _, rfl, hy17⟩, x, x, A, A, rfl, sx.same t17, sx.same t17, oA, oA, lA, lA, fun c1 c2 G17 s17 i1 i2 => ?_⟩
    have e1 : true = c1 := (i1.mpr (JM.wi_refl A)).symm
    subst e1
    have e2 : true = c2 := (i2.mpr (JM.wi_refl A)).symm
    subst e2
    have t18 := t17.trans s17
    clear i1 i2 hx17 hy17
    refine ⟨by show 4 ≤ sizeLine; decide, fun F3 hF3 => ?_⟩
    have gF3 : (upd G17 F3 (.lst [V.bl (rLe true true), V.bl (rEq true true), V.bl (rLt true true), V.bl (rGt true true)])) F3 = some (.lst [.bl true, .bl true, .bl false, .bl false]) := upd_same
    generalize (upd G17 F3 (.lst [V.bl (rLe true true), V.bl (rEq true true), V.bl (rLt true true), V.bl (rGt true true)])) = HF3 at gF3 ⊢
    refine ⟨by show 4 ≤ sizeLine; decide, fun D3 hD3 => ?_⟩
    have u3 := new_ (o := .lst [V.bl true, .bl true, .bl false, .bl false]) hD3
    refine ⟨.ref F3, .ref D3, rfl, .bls (u3 _ _ gF3) upd_same (by show 4 ≤ sizeLine; decide) (fun v hv => ?_), fun HZ _ => kk HZ⟩
    simp only [List.mem_cons, List.not_mem_nil, or_false] at hv
    rcases hv with rfl | rfl | rfl | rfl <;> exact ⟨_, rfl⟩
end
end PA

set_option maxHeartbeats 8000000
namespace PA
open PySem L2 RZ
theorem kit_self {K : PySem.W.Frag} {C : Addr} : PySem.W.kitOne K (.ref C) (.ref C) = some true := by
  unfold PySem.W.kitOne
  rw [if_pos (by simp)]
theorem kit_2 {K : PySem.W.Frag} {C D : Addr} (h1 : (Value.ref D == Value.ref C) = false) (h2 : PySem.W.isClsIn K C = true) (h3 : PySem.W.typeIn K (.ref C) = some (.type "type")) (h4 : PySem.W.subIn K (.ref D) (.ref C) = some false) : PySem.W.kitOne K (.ref D) (.ref C) = some false := by
  have e2 : ((PySem.W.clsIn K C).isSome && PySem.W.typeIn K (.ref C) == some (.type "type")) = true := by
    have h2' : (PySem.W.clsIn K C).isSome = true := h2
    rw [h2', h3] <;> rfl
  unfold PySem.W.kitOne
  rw [h1, if_neg (by simp)]
  show (if ((PySem.W.clsIn K C).isSome && PySem.W.typeIn K (.ref C) == some (.type "type")) = true then PySem.W.subIn K (.ref D) (.ref C) else none) = some false
  rw [if_pos e2]
  exact h4
theorem exm_2 {K : PySem.W.Frag} {S P : Addr} (h1 : PySem.W.subIn K (.ref P) (.type "BaseException") = some true) (h2 : PySem.W.isClsIn K P = true) (h3 : PySem.W.typeIn K (.ref P) = some (.type "type")) (h4 : PySem.W.subIn K (.ref S) (.ref P) = some true) :
    PySem.W.exmOne K (.ref S) (.ref P) = some true := by
  have e2 : ((PySem.W.clsIn K P).isSome && PySem.W.typeIn K (.ref P) == some (.type "type")) = true := by
    have h2' : (PySem.W.clsIn K P).isSome = true := h2
    rw [h2', h3] <;> rfl
  unfold PySem.W.exmOne
  rw [h1, if_pos (by simp)]
  show (if ((PySem.W.clsIn K P).isSome && PySem.W.typeIn K (.ref P) == some (.type "type")) = true then PySem.W.subIn K (.ref S) (.ref P) else none) = some true
  rw [if_pos e2]
  exact h4
theorem kit_cls {K : PySem.W.Frag} {C : Addr} {t : String} (h2 : PySem.W.isClsIn K C = true) (h3 : PySem.W.typeIn K (.ref C) = some (.type "type")) (h4 : PySem.W.subIn K (.type t) (.ref C) = some false) : PySem.W.kitOne K (.type t) (.ref C) = some false := by
  have e2 : ((PySem.W.clsIn K C).isSome && PySem.W.typeIn K (.ref C) == some (.type "type")) = true := by
    have h2' : (PySem.W.clsIn K C).isSome = true := h2
    rw [h2', h3] <;> rfl
  unfold PySem.W.kitOne
  rw [if_neg (by simp)]
  show (if ((PySem.W.clsIn K C).isSome && PySem.W.typeIn K (.ref C) == some (.type "type")) = true then PySem.W.subIn K (.type t) (.ref C) else none) = some false
  rw [if_pos e2]
  exact h4

theorem all_mk {l : PySem.W.OpenLaw} {w : World} {K : PySem.W.Frag} {h : Heap} {mg : Str → Option Value} {fa C gCI Fo gEq gNe gLe gGe gLt gGt gisInt gbelow gisRow gcheck gfol gjoin ginn gdraw gstart gmixed gsame gentry glines gwithin gnear gLaw : Addr} (X_ : K.In h) (G : h.Ns mainGlobals mg) (hfa : mg "law" = some (.ref fa))
    {ocCI kVCI dcCI pmCI cdCI ctCI : Value} {odCI anCI : Option Addr} {slCI : Array (Option Value)} {tkM : Tok} {ocEq kVEq dcEq pmEq cdEq ctEq : Value} {odEq anEq : Option Addr} {slEq : Array (Option Value)} {ocNe kVNe dcNe pmNe cdNe ctNe : Value} {odNe anNe : Option Addr} {slNe : Array (Option Value)} {ocLe kVLe dcLe pmLe cdLe ctLe : Value} {odLe anLe : Option Addr} {slLe : Array (Option Value)} {ocGe kVGe dcGe pmGe cdGe ctGe : Value} {odGe anGe : Option Addr} {slGe : Array (Option Value)} {ocLt kVLt dcLt pmLt cdLt ctLt : Value} {odLt anLt : Option Addr} {slLt : Array (Option Value)} {ocGt kVGt dcGt pmGt cdGt ctGt : Value} {odGt anGt : Option Addr} {slGt : Array (Option Value)} {ocisInt kVisInt dcisInt pmisInt cdisInt ctisInt : Value} {odisInt anisInt : Option Addr} {slisInt : Array (Option Value)} {ocbelow kVbelow dcbelow pmbelow cdbelow ctbelow : Value} {odbelow anbelow : Option Addr} {slbelow : Array (Option Value)} {ocisRow kVisRow dcisRow pmisRow cdisRow ctisRow : Value} {odisRow anisRow : Option Addr} {slisRow : Array (Option Value)} {occheck kVcheck dccheck pmcheck cdcheck ctcheck : Value} {odcheck ancheck : Option Addr} {slcheck : Array (Option Value)} {ocfol kVfol dcfol pmfol cdfol ctfol : Value} {odfol anfol : Option Addr} {slfol : Array (Option Value)} {ocjoin kVjoin dcjoin pmjoin cdjoin ctjoin : Value} {odjoin anjoin : Option Addr} {sljoin : Array (Option Value)} {ocinn kVinn dcinn pminn cdinn ctinn : Value} {odinn aninn : Option Addr} {slinn : Array (Option Value)} {ocdraw kVdraw dcdraw pmdraw cddraw ctdraw : Value} {oddraw andraw : Option Addr} {sldraw : Array (Option Value)} {ocstart kVstart dcstart pmstart cdstart ctstart : Value} {odstart anstart : Option Addr} {slstart : Array (Option Value)} {ocmixed kVmixed dcmixed pmmixed cdmixed ctmixed : Value} {odmixed anmixed : Option Addr} {slmixed : Array (Option Value)} {ocsame kVsame dcsame pmsame cdsame ctsame : Value} {odsame ansame : Option Addr} {slsame : Array (Option Value)} {ocentry kVentry dcentry pmentry cdentry ctentry : Value} {odentry anentry : Option Addr} {slentry : Array (Option Value)} {oclines kVlines dclines pmlines cdlines ctlines : Value} {odlines anlines : Option Addr} {sllines : Array (Option Value)} {ocwithin kVwithin dcwithin pmwithin cdwithin ctwithin : Value} {odwithin anwithin : Option Addr} {slwithin : Array (Option Value)} {ocnear kVnear dcnear pmnear cdnear ctnear : Value} {odnear annear : Option Addr} {slnear : Array (Option Value)} {ocLaw kVLaw dcLaw pmLaw cdLaw ctLaw : Value} {odLaw anLaw : Option Addr} {slLaw : Array (Option Value)}
    (aC : PySem.W.nsIn K mainGlobals "RowSet" = some (some (.ref C)))
    (pgC : PySem.W.plainGet K C Str.empty = true)
    (hdC : PySem.W.hasDictIn K C = true)
    (poC : PySem.W.plainOver K C = true)
    (saC : PySem.W.findIn K (.ref C) "__setattr__" = some (some (.builtin "object.__setattr__")))
    (kcC : PySem.W.keepIn K (.ref C) = true)
    (mkC : PySem.W.makesIn K C = true)
    (nCrows : PySem.W.findIn K (.ref C) "rows" = some none)
    (aCI : PySem.W.findIn K (.ref C) "__init__" = some (some (.ref gCI)))
    (lCI : K.lookup gCI = some ⟨ocCI, odCI, .func (PySem.W.fnOf "__init__" "RowSet.__init__" (defArgs sInit) (defBody sInit) (defScope sInit) .none kVCI dcCI pmCI anCI cdCI ctCI), slCI⟩)
    (cCI : PySem.W.codeIn K cdCI "RowSet.__init__" = true)
    (kCI : PySem.W.keepIn K (.ref gCI) = true)
    (iCI : PySem.W.isFn K (.ref gCI) = true)
    (aFo : PySem.W.nsIn K mainGlobals "Found" = some (some (.ref Fo)))
    (iCF : PySem.W.isClsIn K Fo = true)
    (tCF : PySem.W.typeIn K (.ref Fo) = some (.type "type"))
    (sLF : PySem.W.subIn K (.type "list") (.ref Fo) = some false)
    (sTF : PySem.W.subIn K (.type "tuple") (.ref Fo) = some false)
    (zisinstance : PySem.W.nsIn K mainGlobals "isinstance" = some none)
    (zint : PySem.W.nsIn K mainGlobals "int" = some none)
    (zbool : PySem.W.nsIn K mainGlobals "bool" = some none)
    (zlist : PySem.W.nsIn K mainGlobals "list" = some none)
    (ztuple : PySem.W.nsIn K mainGlobals "tuple" = some none)
    (zlen : PySem.W.nsIn K mainGlobals "len" = some none)
    (zall : PySem.W.nsIn K mainGlobals "all" = some none)
    (zzip : PySem.W.nsIn K mainGlobals "zip" = some none)
    (zrange : PySem.W.nsIn K mainGlobals "range" = some none)
    (zenumerate : PySem.W.nsIn K mainGlobals "enumerate" = some none)
    (aMost : PySem.W.nsIn K mainGlobals "MOST_ROWS" = some (some (.int 48 tkM)))
    (q1 : PySem.W.findIn K (.ref C) "__class__" = some (some (.builtin "object.__class__")))
    (q2 : PySem.W.specialIn K (.builtin "object.__class__") "__get__" = some (some (.builtin "getset_descriptor.__get__")))
    (q3 : PySem.W.takesIn K (.builtin "object.__class__") = some true)
    (q4 : PySem.W.mroIn K C (.type "object") = some true)
    (sintC : PySem.W.subIn K (.type "int") (.ref C) = some false)
    (aEq : PySem.W.findIn K (.ref C) "__eq__" = some (some (.ref gEq)))
    (lEq : K.lookup gEq = some ⟨ocEq, odEq, .func (PySem.W.fnOf "__eq__" "RowSet.__eq__" (defArgs sEq) (defBody sEq) (defScope sEq) .none kVEq dcEq pmEq anEq cdEq ctEq), slEq⟩)
    (cEq : PySem.W.codeIn K cdEq "RowSet.__eq__" = true)
    (kEq : PySem.W.keepIn K (.ref gEq) = true)
    (iEq : PySem.W.isFn K (.ref gEq) = true)
    (aNe : PySem.W.findIn K (.ref C) "__ne__" = some (some (.ref gNe)))
    (lNe : K.lookup gNe = some ⟨ocNe, odNe, .func (PySem.W.fnOf "__ne__" "RowSet.__ne__" (defArgs sNe) (defBody sNe) (defScope sNe) .none kVNe dcNe pmNe anNe cdNe ctNe), slNe⟩)
    (cNe : PySem.W.codeIn K cdNe "RowSet.__ne__" = true)
    (kNe : PySem.W.keepIn K (.ref gNe) = true)
    (iNe : PySem.W.isFn K (.ref gNe) = true)
    (aLe : PySem.W.findIn K (.ref C) "__le__" = some (some (.ref gLe)))
    (lLe : K.lookup gLe = some ⟨ocLe, odLe, .func (PySem.W.fnOf "__le__" "RowSet.__le__" (defArgs sLe) (defBody sLe) (defScope sLe) .none kVLe dcLe pmLe anLe cdLe ctLe), slLe⟩)
    (cLe : PySem.W.codeIn K cdLe "RowSet.__le__" = true)
    (kLe : PySem.W.keepIn K (.ref gLe) = true)
    (iLe : PySem.W.isFn K (.ref gLe) = true)
    (aGe : PySem.W.findIn K (.ref C) "__ge__" = some (some (.ref gGe)))
    (lGe : K.lookup gGe = some ⟨ocGe, odGe, .func (PySem.W.fnOf "__ge__" "RowSet.__ge__" (defArgs sGe) (defBody sGe) (defScope sGe) .none kVGe dcGe pmGe anGe cdGe ctGe), slGe⟩)
    (cGe : PySem.W.codeIn K cdGe "RowSet.__ge__" = true)
    (kGe : PySem.W.keepIn K (.ref gGe) = true)
    (iGe : PySem.W.isFn K (.ref gGe) = true)
    (aLt : PySem.W.findIn K (.ref C) "__lt__" = some (some (.ref gLt)))
    (lLt : K.lookup gLt = some ⟨ocLt, odLt, .func (PySem.W.fnOf "__lt__" "RowSet.__lt__" (defArgs sLt) (defBody sLt) (defScope sLt) .none kVLt dcLt pmLt anLt cdLt ctLt), slLt⟩)
    (cLt : PySem.W.codeIn K cdLt "RowSet.__lt__" = true)
    (kLt : PySem.W.keepIn K (.ref gLt) = true)
    (iLt : PySem.W.isFn K (.ref gLt) = true)
    (aGt : PySem.W.findIn K (.ref C) "__gt__" = some (some (.ref gGt)))
    (lGt : K.lookup gGt = some ⟨ocGt, odGt, .func (PySem.W.fnOf "__gt__" "RowSet.__gt__" (defArgs sGt) (defBody sGt) (defScope sGt) .none kVGt dcGt pmGt anGt cdGt ctGt), slGt⟩)
    (cGt : PySem.W.codeIn K cdGt "RowSet.__gt__" = true)
    (kGt : PySem.W.keepIn K (.ref gGt) = true)
    (iGt : PySem.W.isFn K (.ref gGt) = true)
    (aisInt : PySem.W.nsIn K mainGlobals "is_integer" = some (some (.ref gisInt)))
    (lisInt : K.lookup gisInt = some ⟨ocisInt, odisInt, .func (PySem.W.fnOf "is_integer" "is_integer" (defArgs sIsInt) (defBody sIsInt) (defScope sIsInt) .none kVisInt dcisInt pmisInt anisInt cdisInt ctisInt), slisInt⟩)
    (cisInt : PySem.W.codeIn K cdisInt "is_integer" = true)
    (kisInt : PySem.W.keepIn K (.ref gisInt) = true)
    (abelow : PySem.W.nsIn K mainGlobals "is_below" = some (some (.ref gbelow)))
    (lbelow : K.lookup gbelow = some ⟨ocbelow, odbelow, .func (PySem.W.fnOf "is_below" "is_below" (defArgs sBelow) (defBody sBelow) (defScope sBelow) .none kVbelow dcbelow pmbelow anbelow cdbelow ctbelow), slbelow⟩)
    (cbelow : PySem.W.codeIn K cdbelow "is_below" = true)
    (kbelow : PySem.W.keepIn K (.ref gbelow) = true)
    (aisRow : PySem.W.nsIn K mainGlobals "_is_row" = some (some (.ref gisRow)))
    (lisRow : K.lookup gisRow = some ⟨ocisRow, odisRow, .func (PySem.W.fnOf "_is_row" "_is_row" (defArgs sIsRow) (defBody sIsRow) (defScope sIsRow) .none kVisRow dcisRow pmisRow anisRow cdisRow ctisRow), slisRow⟩)
    (cisRow : PySem.W.codeIn K cdisRow "_is_row" = true)
    (kisRow : PySem.W.keepIn K (.ref gisRow) = true)
    (acheck : PySem.W.nsIn K mainGlobals "_check_rows" = some (some (.ref gcheck)))
    (lcheck : K.lookup gcheck = some ⟨occheck, odcheck, .func (PySem.W.fnOf "_check_rows" "_check_rows" (defArgs sCheck) (defBody sCheck) (defScope sCheck) .none kVcheck dccheck pmcheck ancheck cdcheck ctcheck), slcheck⟩)
    (ccheck : PySem.W.codeIn K cdcheck "_check_rows" = true)
    (kcheck : PySem.W.keepIn K (.ref gcheck) = true)
    (afol : PySem.W.nsIn K mainGlobals "_following" = some (some (.ref gfol)))
    (lfol : K.lookup gfol = some ⟨ocfol, odfol, .func (PySem.W.fnOf "_following" "_following" (defArgs sFol) (defBody sFol) (defScope sFol) .none kVfol dcfol pmfol anfol cdfol ctfol), slfol⟩)
    (cfol : PySem.W.codeIn K cdfol "_following" = true)
    (kfol : PySem.W.keepIn K (.ref gfol) = true)
    (ajoin : PySem.W.nsIn K mainGlobals "joined" = some (some (.ref gjoin)))
    (ljoin : K.lookup gjoin = some ⟨ocjoin, odjoin, .func (PySem.W.fnOf "joined" "joined" (defArgs sJoin) (defBody sJoin) (defScope sJoin) .none kVjoin dcjoin pmjoin anjoin cdjoin ctjoin), sljoin⟩)
    (cjoin : PySem.W.codeIn K cdjoin "joined" = true)
    (kjoin : PySem.W.keepIn K (.ref gjoin) = true)
    (ainn : PySem.W.nsIn K mainGlobals "_is_within" = some (some (.ref ginn)))
    (linn : K.lookup ginn = some ⟨ocinn, odinn, .func (PySem.W.fnOf "_is_within" "_is_within" (defArgs sIn) (defBody sIn) (defScope sIn) .none kVinn dcinn pminn aninn cdinn ctinn), slinn⟩)
    (cinn : PySem.W.codeIn K cdinn "_is_within" = true)
    (kinn : PySem.W.keepIn K (.ref ginn) = true)
    (adraw : PySem.W.nsIn K mainGlobals "_law_draw" = some (some (.ref gdraw)))
    (ldraw : K.lookup gdraw = some ⟨ocdraw, oddraw, .func (PySem.W.fnOf "_law_draw" "_law_draw" (defArgs sDraw) (defBody sDraw) (defScope sDraw) .none kVdraw dcdraw pmdraw andraw cddraw ctdraw), sldraw⟩)
    (cdraw : PySem.W.codeIn K cddraw "_law_draw" = true)
    (kdraw : PySem.W.keepIn K (.ref gdraw) = true)
    (astart : PySem.W.nsIn K mainGlobals "_law_start" = some (some (.ref gstart)))
    (lstart : K.lookup gstart = some ⟨ocstart, odstart, .func (PySem.W.fnOf "_law_start" "_law_start" (defArgs sStart) (defBody sStart) (defScope sStart) .none kVstart dcstart pmstart anstart cdstart ctstart), slstart⟩)
    (cstart : PySem.W.codeIn K cdstart "_law_start" = true)
    (kstart : PySem.W.keepIn K (.ref gstart) = true)
    (amixed : PySem.W.nsIn K mainGlobals "_law_mixed" = some (some (.ref gmixed)))
    (lmixed : K.lookup gmixed = some ⟨ocmixed, odmixed, .func (PySem.W.fnOf "_law_mixed" "_law_mixed" (defArgs sMixed) (defBody sMixed) (defScope sMixed) .none kVmixed dcmixed pmmixed anmixed cdmixed ctmixed), slmixed⟩)
    (cmixed : PySem.W.codeIn K cdmixed "_law_mixed" = true)
    (kmixed : PySem.W.keepIn K (.ref gmixed) = true)
    (asame : PySem.W.nsIn K mainGlobals "_law_same" = some (some (.ref gsame)))
    (lsame : K.lookup gsame = some ⟨ocsame, odsame, .func (PySem.W.fnOf "_law_same" "_law_same" (defArgs sSame) (defBody sSame) (defScope sSame) .none kVsame dcsame pmsame ansame cdsame ctsame), slsame⟩)
    (csame : PySem.W.codeIn K cdsame "_law_same" = true)
    (ksame : PySem.W.keepIn K (.ref gsame) = true)
    (aentry : PySem.W.nsIn K mainGlobals "_law_m_entry" = some (some (.ref gentry)))
    (lentry : K.lookup gentry = some ⟨ocentry, odentry, .func (PySem.W.fnOf "_law_m_entry" "_law_m_entry" (defArgs sEntry) (defBody sEntry) (defScope sEntry) .none kVentry dcentry pmentry anentry cdentry ctentry), slentry⟩)
    (centry : PySem.W.codeIn K cdentry "_law_m_entry" = true)
    (kentry : PySem.W.keepIn K (.ref gentry) = true)
    (alines : PySem.W.nsIn K mainGlobals "_law_m_lines" = some (some (.ref glines)))
    (llines : K.lookup glines = some ⟨oclines, odlines, .func (PySem.W.fnOf "_law_m_lines" "_law_m_lines" (defArgs sLines) (defBody sLines) (defScope sLines) .none kVlines dclines pmlines anlines cdlines ctlines), sllines⟩)
    (clines : PySem.W.codeIn K cdlines "_law_m_lines" = true)
    (klines : PySem.W.keepIn K (.ref glines) = true)
    (awithin : PySem.W.nsIn K mainGlobals "_law_m_within" = some (some (.ref gwithin)))
    (lwithin : K.lookup gwithin = some ⟨ocwithin, odwithin, .func (PySem.W.fnOf "_law_m_within" "_law_m_within" (defArgs sWithin) (defBody sWithin) (defScope sWithin) .none kVwithin dcwithin pmwithin anwithin cdwithin ctwithin), slwithin⟩)
    (cwithin : PySem.W.codeIn K cdwithin "_law_m_within" = true)
    (kwithin : PySem.W.keepIn K (.ref gwithin) = true)
    (anear : PySem.W.nsIn K mainGlobals "_law_near" = some (some (.ref gnear)))
    (lnear : K.lookup gnear = some ⟨ocnear, odnear, .func (PySem.W.fnOf "_law_near" "_law_near" (defArgs sNear) (defBody sNear) (defScope sNear) .none kVnear dcnear pmnear annear cdnear ctnear), slnear⟩)
    (cnear : PySem.W.codeIn K cdnear "_law_near" = true)
    (knear : PySem.W.keepIn K (.ref gnear) = true)
    (aLaw : PySem.W.nsIn K mainGlobals "law" = some (some (.ref gLaw)))
    (lLaw : K.lookup gLaw = some ⟨ocLaw, odLaw, .func (PySem.W.fnOf "law" "law" (defArgs sLaw) (defBody sLaw) (defScope sLaw) .none kVLaw dcLaw pmLaw anLaw cdLaw ctLaw), slLaw⟩)
    (cLaw : PySem.W.codeIn K cdLaw "law" = true)
    (kLaw : PySem.W.keepIn K (.ref gLaw) = true) :
    ∃ fd : FuncData, (∀ (s : Shared) (v : Value), BindsTo s fd ⟨[v], []⟩ [("_law_script", v)]) ∧ ∀ base : Heap, K.In base → base.Ns mainGlobals mg → FnOk l.prog w K mg base CX0 7 fa fd ["_law_script"] (spLaw K) := by
  have e := hfa.symm.trans (PySem.W.mg_of X_ G aLaw)
  cases e
  have FCI := fun_mk (st := sInit) lCI cCI kCI
  have bCI := FCI.binds (ps := ["self", "rows"]) fun _ _ _ _ _ _ us hl => match us, hl with | [_, _], _ => rfl
  have FEq := fun_mk (st := sEq) lEq cEq kEq
  have bEq := FEq.binds (ps := ["self", "other"]) fun _ _ _ _ _ _ us hl => match us, hl with | [_, _], _ => rfl
  have FNe := fun_mk (st := sNe) lNe cNe kNe
  have bNe := FNe.binds (ps := ["self", "other"]) fun _ _ _ _ _ _ us hl => match us, hl with | [_, _], _ => rfl
  have FLe := fun_mk (st := sLe) lLe cLe kLe
  have bLe := FLe.binds (ps := ["self", "other"]) fun _ _ _ _ _ _ us hl => match us, hl with | [_, _], _ => rfl
  have FGe := fun_mk (st := sGe) lGe cGe kGe
  have bGe := FGe.binds (ps := ["self", "other"]) fun _ _ _ _ _ _ us hl => match us, hl with | [_, _], _ => rfl
  have FLt := fun_mk (st := sLt) lLt cLt kLt
  have bLt := FLt.binds (ps := ["self", "other"]) fun _ _ _ _ _ _ us hl => match us, hl with | [_, _], _ => rfl
  have FGt := fun_mk (st := sGt) lGt cGt kGt
  have bGt := FGt.binds (ps := ["self", "other"]) fun _ _ _ _ _ _ us hl => match us, hl with | [_, _], _ => rfl
  have FisInt := fun_mk (st := sIsInt) lisInt cisInt kisInt
  have bisInt := FisInt.binds (ps := ["value"]) fun _ _ _ _ _ _ us hl => match us, hl with | [_], _ => rfl
  have Fbelow := fun_mk (st := sBelow) lbelow cbelow kbelow
  have bbelow := Fbelow.binds (ps := ["value", "count"]) fun _ _ _ _ _ _ us hl => match us, hl with | [_, _], _ => rfl
  have FisRow := fun_mk (st := sIsRow) lisRow cisRow kisRow
  have bisRow := FisRow.binds (ps := ["row", "count"]) fun _ _ _ _ _ _ us hl => match us, hl with | [_, _], _ => rfl
  have Fcheck := fun_mk (st := sCheck) lcheck ccheck kcheck
  have bcheck := Fcheck.binds (ps := ["rows"]) fun _ _ _ _ _ _ us hl => match us, hl with | [_], _ => rfl
  have Ffol := fun_mk (st := sFol) lfol cfol kfol
  have bfol := Ffol.binds (ps := ["first", "second", "pair", "at", "either"]) fun _ _ _ _ _ _ us hl => match us, hl with | [_, _, _, _, _], _ => rfl
  have Fjoin := fun_mk (st := sJoin) ljoin cjoin kjoin
  have bjoin := Fjoin.binds (ps := ["first", "second", "either"]) fun _ _ _ _ _ _ us hl => match us, hl with | [_, _, _], _ => rfl
  have Finn := fun_mk (st := sIn) linn cinn kinn
  have binn := Finn.binds (ps := ["first", "second"]) fun _ _ _ _ _ _ us hl => match us, hl with | [_, _], _ => rfl
  have Fdraw := fun_mk (st := sDraw) ldraw cdraw kdraw
  have bdraw := Fdraw.binds (ps := ["_law_stream", "_law_many"]) fun _ _ _ _ _ _ us hl => match us, hl with | [_, _], _ => rfl
  have Fstart := fun_mk (st := sStart) lstart cstart kstart
  have bstart := Fstart.binds (ps := ["_law_script"]) fun _ _ _ _ _ _ us hl => match us, hl with | [_], _ => rfl
  have Fmixed := fun_mk (st := sMixed) lmixed cmixed kmixed
  have bmixed := Fmixed.binds (ps := ["_law_stream", "_law_some"]) fun _ _ _ _ _ _ us hl => match us, hl with | [_, _], _ => rfl
  have Fsame := fun_mk (st := sSame) lsame csame ksame
  have bsame := Fsame.binds (ps := ["_law_found", "_law_due"]) fun _ _ _ _ _ _ us hl => match us, hl with | [_, _], _ => rfl
  have Fentry := fun_mk (st := sEntry) lentry centry kentry
  have bentry := Fentry.binds (ps := ["_law_stream", "_law_size"]) fun _ _ _ _ _ _ us hl => match us, hl with | [_, _], _ => rfl
  have Flines := fun_mk (st := sLines) llines clines klines
  have blines := Flines.binds (ps := ["_law_stream", "_law_most"]) fun _ _ _ _ _ _ us hl => match us, hl with | [_, _], _ => rfl
  have Fwithin := fun_mk (st := sWithin) lwithin cwithin kwithin
  have bwithin := Fwithin.binds (ps := ["_law_one", "_law_other"]) fun _ _ _ _ _ _ us hl => match us, hl with | [_, _], _ => rfl
  have Fnear := fun_mk (st := sNear) lnear cnear knear
  have bnear := Fnear.binds (ps := ["_law_stream", "_law_lines"]) fun _ _ _ _ _ _ us hl => match us, hl with | [_, _], _ => rfl
  have PR : Prog K mg C gCI Fo gisInt gbelow gisRow gcheck gfol gjoin ginn gEq gNe gLe gGe gLt gGt gdraw gstart gmixed gsame gentry glines gwithin gnear (PySem.W.fnOf "__init__" "RowSet.__init__" (defArgs sInit) (defBody sInit) (defScope sInit) .none kVCI dcCI pmCI anCI cdCI ctCI) (PySem.W.fnOf "is_integer" "is_integer" (defArgs sIsInt) (defBody sIsInt) (defScope sIsInt) .none kVisInt dcisInt pmisInt anisInt cdisInt ctisInt) (PySem.W.fnOf "is_below" "is_below" (defArgs sBelow) (defBody sBelow) (defScope sBelow) .none kVbelow dcbelow pmbelow anbelow cdbelow ctbelow) (PySem.W.fnOf "_is_row" "_is_row" (defArgs sIsRow) (defBody sIsRow) (defScope sIsRow) .none kVisRow dcisRow pmisRow anisRow cdisRow ctisRow) (PySem.W.fnOf "_check_rows" "_check_rows" (defArgs sCheck) (defBody sCheck) (defScope sCheck) .none kVcheck dccheck pmcheck ancheck cdcheck ctcheck) (PySem.W.fnOf "_following" "_following" (defArgs sFol) (defBody sFol) (defScope sFol) .none kVfol dcfol pmfol anfol cdfol ctfol) (PySem.W.fnOf "joined" "joined" (defArgs sJoin) (defBody sJoin) (defScope sJoin) .none kVjoin dcjoin pmjoin anjoin cdjoin ctjoin) (PySem.W.fnOf "_is_within" "_is_within" (defArgs sIn) (defBody sIn) (defScope sIn) .none kVinn dcinn pminn aninn cdinn ctinn) (PySem.W.fnOf "__eq__" "RowSet.__eq__" (defArgs sEq) (defBody sEq) (defScope sEq) .none kVEq dcEq pmEq anEq cdEq ctEq) (PySem.W.fnOf "__ne__" "RowSet.__ne__" (defArgs sNe) (defBody sNe) (defScope sNe) .none kVNe dcNe pmNe anNe cdNe ctNe) (PySem.W.fnOf "__le__" "RowSet.__le__" (defArgs sLe) (defBody sLe) (defScope sLe) .none kVLe dcLe pmLe anLe cdLe ctLe) (PySem.W.fnOf "__ge__" "RowSet.__ge__" (defArgs sGe) (defBody sGe) (defScope sGe) .none kVGe dcGe pmGe anGe cdGe ctGe) (PySem.W.fnOf "__lt__" "RowSet.__lt__" (defArgs sLt) (defBody sLt) (defScope sLt) .none kVLt dcLt pmLt anLt cdLt ctLt) (PySem.W.fnOf "__gt__" "RowSet.__gt__" (defArgs sGt) (defBody sGt) (defScope sGt) .none kVGt dcGt pmGt anGt cdGt ctGt) (PySem.W.fnOf "_law_draw" "_law_draw" (defArgs sDraw) (defBody sDraw) (defScope sDraw) .none kVdraw dcdraw pmdraw andraw cddraw ctdraw) (PySem.W.fnOf "_law_start" "_law_start" (defArgs sStart) (defBody sStart) (defScope sStart) .none kVstart dcstart pmstart anstart cdstart ctstart) (PySem.W.fnOf "_law_mixed" "_law_mixed" (defArgs sMixed) (defBody sMixed) (defScope sMixed) .none kVmixed dcmixed pmmixed anmixed cdmixed ctmixed) (PySem.W.fnOf "_law_same" "_law_same" (defArgs sSame) (defBody sSame) (defScope sSame) .none kVsame dcsame pmsame ansame cdsame ctsame) (PySem.W.fnOf "_law_m_entry" "_law_m_entry" (defArgs sEntry) (defBody sEntry) (defScope sEntry) .none kVentry dcentry pmentry anentry cdentry ctentry) (PySem.W.fnOf "_law_m_lines" "_law_m_lines" (defArgs sLines) (defBody sLines) (defScope sLines) .none kVlines dclines pmlines anlines cdlines ctlines) (PySem.W.fnOf "_law_m_within" "_law_m_within" (defArgs sWithin) (defBody sWithin) (defScope sWithin) .none kVwithin dcwithin pmwithin anwithin cdwithin ctwithin) (PySem.W.fnOf "_law_near" "_law_near" (defArgs sNear) (defBody sNear) (defScope sNear) .none kVnear dcnear pmnear annear cdnear ctnear) := ⟨⟨PySem.W.mg_none_of X_ G zisinstance, PySem.W.mg_none_of X_ G zint, PySem.W.mg_none_of X_ G zbool, PySem.W.mg_none_of X_ G zlist, PySem.W.mg_none_of X_ G ztuple, PySem.W.mg_none_of X_ G zlen, PySem.W.mg_none_of X_ G zall, PySem.W.mg_none_of X_ G zzip, PySem.W.mg_none_of X_ G zrange, PySem.W.mg_none_of X_ G zenumerate, ⟨tkM, PySem.W.mg_of X_ G aMost⟩⟩, ⟨⟨pgC, hdC, poC, saC⟩, nCrows, PySem.W.mg_of X_ G aC, PySem.W.mg_of X_ G aFo, kit_cls iCF tCF sLF, kit_cls iCF tCF sTF⟩, ⟨q1, q2, q3, q4, kit_self⟩, FCI, ⟨mkC, aCI, iCI, kcC⟩, bCI, ⟨FisInt, bisInt, PySem.W.mg_of X_ G aisInt⟩, ⟨Fbelow, bbelow, PySem.W.mg_of X_ G abelow⟩, ⟨FisRow, bisRow, PySem.W.mg_of X_ G aisRow⟩, ⟨Fcheck, bcheck, PySem.W.mg_of X_ G acheck⟩, ⟨Ffol, bfol, PySem.W.mg_of X_ G afol⟩, ⟨Fjoin, bjoin, PySem.W.mg_of X_ G ajoin⟩, ⟨Finn, binn, PySem.W.mg_of X_ G ainn⟩, FEq, bEq, ⟨aEq, iEq, sintC⟩, FNe, bNe, ⟨aNe, iNe, sintC⟩, FLe, bLe, ⟨aLe, iLe, sintC⟩, FGe, bGe, ⟨aGe, iGe, sintC⟩, FLt, bLt, ⟨aLt, iLt, sintC⟩, FGt, bGt, ⟨aGt, iGt, sintC⟩, ⟨Fdraw, bdraw, PySem.W.mg_of X_ G adraw⟩, ⟨Fstart, bstart, PySem.W.mg_of X_ G astart⟩, ⟨Fmixed, bmixed, PySem.W.mg_of X_ G amixed⟩, ⟨Fsame, bsame, PySem.W.mg_of X_ G asame⟩, ⟨Fentry, bentry, PySem.W.mg_of X_ G aentry⟩, ⟨Flines, blines, PySem.W.mg_of X_ G alines⟩, ⟨Fwithin, bwithin, PySem.W.mg_of X_ G awithin⟩, ⟨Fnear, bnear, PySem.W.mg_of X_ G anear⟩⟩
  exact ⟨PySem.W.fnOf "law" "law" (defArgs sLaw) (defBody sLaw) (defScope sLaw) .none kVLaw dcLaw pmLaw anLaw cdLaw ctLaw, fun s v => .of_eq rfl, fun base _ _ => ok_law (fun_mk (st := sLaw) lLaw cLaw kLaw) PR⟩
theorem walk_ {l : PySem.W.OpenLaw} {q : Program} {loose : List Str} {XP : (Str → Option Value) → Heap → Prop} {YP : World → Heap → Prop} {d : DefRec} {K : Params → PySem.W.Frag} (hn : l.most = some 63) (hdf : d.params.defaults = [])
    (hY : ∀ (w : World) (h : Heap), YP w h → (K w.params).In h)
    (F : ∀ (w : World) (mg : Str → Option Value) (fa : Addr) (h : Heap), (K w.params).In h → h.Ns mainGlobals mg → mg d.name = some (.ref fa) →
      ∃ fd : FuncData, (∀ (s : Shared) (u : Value), BindsTo s fd ⟨[u], []⟩ [("_law_script", u)]) ∧ ∀ base : Heap, (K w.params).In base → base.Ns mainGlobals mg → FnOk l.prog w (K w.params) mg base CX0 7 fa fd ["_law_script"] (spLaw (K w.params))) :
    PySem.W.WalkO q loose XP YP l.row.toRowW d [] (fun f vs => PySem.call f vs) :=
  L2.walk_of (n := 63) (k := 7) (x := "_law_script") (CX := fun _ => CX0) (sp := fun w => spLaw (K w.params)) hn (by decide) hdf ⟨rfl, by decide, by decide⟩ hY F (fun _ _ a ns hl _ hS => ⟨a, ns, rfl, hS, hl, fun _ => rfl⟩) fun _ _ _ _ _ z => z
end PA

open PySem PySem.W PyProof.Rows
set_option maxRecDepth 100000 in
set_option maxHeartbeats 0 in
theorem PySem.Challenge.cw_pairahead_k21_row_sets_compared_holds : PySem.Challenge.rw_pairahead_k21_row_sets_compared.Holds := by
  w_on; o_law; k_head; (case hw => w_witness2)
  k_fill
  refine PA.walk_ (l := PySem.Challenge.rw_pairahead_k21_row_sets_compared) rfl rfl (fun w h Y => PySem.W.kIn_of Y) ?F
  case F =>
    intro w mg fa h KX G hmg
    refine' PA.all_mk KX G hmg ?aC ?pgC ?hdC ?poC ?saC ?kcC ?mkC ?nCrows ?aCI ?lCI ?cCI ?kCI ?iCI ?aFo ?iCF ?tCF ?sLF ?sTF ?zisinstance ?zint ?zbool ?zlist ?ztuple ?zlen ?zall ?zzip ?zrange ?zenumerate ?aMost ?q1 ?q2 ?q3 ?q4 ?sintC ?aEq ?lEq ?cEq ?kEq ?iEq ?aNe ?lNe ?cNe ?kNe ?iNe ?aLe ?lLe ?cLe ?kLe ?iLe ?aGe ?lGe ?cGe ?kGe ?iGe ?aLt ?lLt ?cLt ?kLt ?iLt ?aGt ?lGt ?cGt ?kGt ?iGt ?aisInt ?lisInt ?cisInt ?kisInt ?abelow ?lbelow ?cbelow ?kbelow ?aisRow ?lisRow ?cisRow ?kisRow ?acheck ?lcheck ?ccheck ?kcheck ?afol ?lfol ?cfol ?kfol ?ajoin ?ljoin ?cjoin ?kjoin ?ainn ?linn ?cinn ?kinn ?adraw ?ldraw ?cdraw ?kdraw ?astart ?lstart ?cstart ?kstart ?amixed ?lmixed ?cmixed ?kmixed ?asame ?lsame ?csame ?ksame ?aentry ?lentry ?centry ?kentry ?alines ?llines ?clines ?klines ?awithin ?lwithin ?cwithin ?kwithin ?anear ?lnear ?cnear ?knear ?aLaw ?lLaw ?cLaw ?kLaw
    (case aC => k_is)
    (case pgC => k_is)
    (case hdC => k_is)
    (case poC => k_is)
    (case saC => k_is)
    (case kcC => k_is)
    (case mkC => k_is)
    (case nCrows => k_is)
    (case aCI => k_is)
    (case lCI => k_is)
    (case cCI => k_is)
    (case kCI => k_is)
    (case iCI => k_is)
    (case aFo => k_is)
    (case iCF => k_is)
    (case tCF => k_is)
    (case sLF => k_is)
    (case sTF => k_is)
    (case zisinstance => k_is)
    (case zint => k_is)
    (case zbool => k_is)
    (case zlist => k_is)
    (case ztuple => k_is)
    (case zlen => k_is)
    (case zall => k_is)
    (case zzip => k_is)
    (case zrange => k_is)
    (case zenumerate => k_is)
    (case aMost => k_is)
    (case q1 => k_is)
    (case q2 => k_is)
    (case q3 => k_is)
    (case q4 => k_is)
    (case sintC => k_is)
    (case aEq => k_is)
    (case lEq => k_is)
    (case cEq => k_is)
    (case kEq => k_is)
    (case iEq => k_is)
    (case aNe => k_is)
    (case lNe => k_is)
    (case cNe => k_is)
    (case kNe => k_is)
    (case iNe => k_is)
    (case aLe => k_is)
    (case lLe => k_is)
    (case cLe => k_is)
    (case kLe => k_is)
    (case iLe => k_is)
    (case aGe => k_is)
    (case lGe => k_is)
    (case cGe => k_is)
    (case kGe => k_is)
    (case iGe => k_is)
    (case aLt => k_is)
    (case lLt => k_is)
    (case cLt => k_is)
    (case kLt => k_is)
    (case iLt => k_is)
    (case aGt => k_is)
    (case lGt => k_is)
    (case cGt => k_is)
    (case kGt => k_is)
    (case iGt => k_is)
    (case aisInt => k_is)
    (case lisInt => k_is)
    (case cisInt => k_is)
    (case kisInt => k_is)
    (case abelow => k_is)
    (case lbelow => k_is)
    (case cbelow => k_is)
    (case kbelow => k_is)
    (case aisRow => k_is)
    (case lisRow => k_is)
    (case cisRow => k_is)
    (case kisRow => k_is)
    (case acheck => k_is)
    (case lcheck => k_is)
    (case ccheck => k_is)
    (case kcheck => k_is)
    (case afol => k_is)
    (case lfol => k_is)
    (case cfol => k_is)
    (case kfol => k_is)
    (case ajoin => k_is)
    (case ljoin => k_is)
    (case cjoin => k_is)
    (case kjoin => k_is)
    (case ainn => k_is)
    (case linn => k_is)
    (case cinn => k_is)
    (case kinn => k_is)
    (case adraw => k_is)
    (case ldraw => k_is)
    (case cdraw => k_is)
    (case kdraw => k_is)
    (case astart => k_is)
    (case lstart => k_is)
    (case cstart => k_is)
    (case kstart => k_is)
    (case amixed => k_is)
    (case lmixed => k_is)
    (case cmixed => k_is)
    (case kmixed => k_is)
    (case asame => k_is)
    (case lsame => k_is)
    (case csame => k_is)
    (case ksame => k_is)
    (case aentry => k_is)
    (case lentry => k_is)
    (case centry => k_is)
    (case kentry => k_is)
    (case alines => k_is)
    (case llines => k_is)
    (case clines => k_is)
    (case klines => k_is)
    (case awithin => k_is)
    (case lwithin => k_is)
    (case cwithin => k_is)
    (case kwithin => k_is)
    (case anear => k_is)
    (case lnear => k_is)
    (case cnear => k_is)
    (case knear => k_is)
    (case aLaw => k_is)
    (case lLaw => k_is)
    (case cLaw => k_is)
    (case kLaw => k_is)
#print axioms PySem.Challenge.cw_pairahead_k21_row_sets_compared_holds
