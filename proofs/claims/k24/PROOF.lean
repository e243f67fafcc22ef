import PyProof.Rows.All
import Wide.All
import OpenK.AllK
import Wide.FinOn
import HandS.ForMost
import HandS.IsInst
import HandS.Zip
import HandS.Wide
import HandS.Codes
import HandS.Evl
import HandS.Conv
import HandS.Defaults
import HandS.MakeKw
import HandS.Walk
import HandS.TupAny
import HandS.Words
import HandS.WordsList
import PySem.Challenge.RW_pairahead_k24_whole_joined_claims
import HandS.TupLe
import KE.KDictCopyH
import HandS.Base
import HandS.Call
import HandS.List
import HandS.Dict
import KE.GoesMore
import KE.GoesZip
import KE.GoesEnum
import HandS.TupLen
import KE.KDictDisplayH
import HandS.More
import HandS.Strs
import HandS.OwnEq
import HandS.Gcd
import HandS.ExcBuiltin
import HandS.TryOnly
import HandS.ForExc
import HandS.Style
set_option Elab.async false
set_option linter.all false
set_option maxRecDepth 100000
set_option maxHeartbeats 2000000
/-! what serves every row -/
namespace L2
open PySem PySem.Spec PyProof.Rows
theorem PI.or {X : Cx} {tg l : Expr} {w1 w2 : TI} (h1 : PI X tg l w1) (h2 : PI X tg l w2) : PI X tg l (fun σ H R => w1 σ H R ∨ w2 σ H R) :=
  ⟨fun pins s σ H R I h => h.elim (h1.run pins s σ H R I) (h2.run pins s σ H R I)⟩
/-- a list or a tuple -/
def Sq (K : PySem.W.Frag) (H : Hp) (a : Addr) (xs : List V) : Prop := SqL K H a xs ∨ SqT K H a xs
theorem SqT.up {K : PySem.W.Frag} {H H' : Hp} {a : Addr} {xs : List V} (h : SqT K H a xs) (e : Same H H') : SqT K H' a xs :=
  h.elim (fun h => .inl (h.elim (fun h => .inl (e _ _ h)) fun ⟨o, h⟩ => .inr ⟨o, e _ _ h⟩)) fun h => .inr h
theorem SqL.up {K : PySem.W.Frag} {H H' : Hp} {a : Addr} {xs : List V} (h : SqL K H a xs) (e : Same H H') : SqL K H' a xs :=
  h.elim (fun h => .inl (h.elim (fun h => .inl (e _ _ h)) fun ⟨o, h⟩ => .inr ⟨o, e _ _ h⟩)) fun h => .inr h
theorem Sq.up {K : PySem.W.Frag} {H H' : Hp} {a : Addr} {xs : List V} (h : Sq K H a xs) (e : Same H H') : Sq K H' a xs := h.imp (fun h => SqL.up h e) fun h => SqT.up h e
theorem walk_l {K : PySem.W.Frag} {a : Addr} {xs : List V} : Walk (Itl K a) xs.length (fun H => SqL K H a xs) (YAt xs) :=
  ⟨fun i H hi q => ⟨xs, xs[i], q, by simp [hi]⟩, fun H q => ⟨xs, q, Nat.le_refl _⟩, fun i H x H' hi q y => ⟨y.1, y.2 xs q⟩⟩
theorem walk_t {K : PySem.W.Frag} {a : Addr} {xs : List V} : Walk (Itt K a) xs.length (fun H => SqT K H a xs) (YAt xs) :=
  ⟨fun i H hi q => ⟨xs, xs[i], q, by simp [hi]⟩, fun H q => ⟨xs, q, Nat.le_refl _⟩, fun i H x H' hi q y => ⟨y.1, y.2 xs q⟩⟩
/-- how a value that is a list or a tuple of xs stands, as one of the two -/
inductive Kind where
  | l | t
def Sk (K : PySem.W.Frag) (k : Kind) (H : Hp) (a : Addr) (xs : List V) : Prop := match k with
  | .l => SqL K H a xs
  | .t => SqT K H a xs
theorem Sk.sq {K : PySem.W.Frag} {k : Kind} {H : Hp} {a : Addr} {xs : List V} (h : Sk K k H a xs) : Sq K H a xs := by
  cases k
  · exact .inl h
  · exact .inr h
theorem Sk.up {K : PySem.W.Frag} {k : Kind} {H H' : Hp} {a : Addr} {xs : List V} (h : Sk K k H a xs) (e : Same H H') : Sk K k H' a xs := by
  cases k
  · exact SqL.up h e
  · exact SqT.up h e
theorem Sq.kind {K : PySem.W.Frag} {H : Hp} {a : Addr} {xs : List V} (h : Sq K H a xs) : ∃ k, Sk K k H a xs := h.elim (fun h => ⟨.l, h⟩) fun h => ⟨.t, h⟩
def ItSq (K : PySem.W.Frag) (k : Kind) (a : Addr) : It := match k with
  | .l => Itl K a
  | .t => Itt K a
theorem walk_k {K : PySem.W.Frag} {k : Kind} {a : Addr} {xs : List V} : Walk (ItSq K k a) xs.length (fun H => Sk K k H a xs) (YAt xs) := by
  cases k
  · exact walk_l
  · exact walk_t
/-- a walk over a list or a tuple -/
def iSq (K : PySem.W.Frag) (tl : TE) : TI := fun σ H R => ∃ k : Kind, tl σ H fun x H1 => ∃ a, x = .ref a ∧ (∃ xs, Sk K k H1 a xs) ∧ R (ItSq K k a) H1
theorem pi_sq {X : Cx} {tg l : Expr} {tl : TE} (hl : PE X l tl) : PI X tg l (iSq X.K tl) := by
  refine ⟨fun pins s σ H R I ⟨k, h⟩ => ?_⟩
  cases k
  · exact (pi_list hl).run pins s σ H R I h
  · exact (pi_tup hl).run pins s σ H R I h
/-! ### comprehensions -/
section
variable {J : It} {n : Nat} {G : Hp → Prop} {xs : List V} {g : TG} {tt : TT} {te : TE} {vs : List Nat} {σ : L2.St} {H1 : Hp} {D : Addr} {Qd : Hp → Prop}
theorem new_ {H : Hp} {p : Addr} {o : HO} (hp : H p = none) : Same H (upd H p o) := fun b u e => by
  rw [upd_ne (ne_of_none e hp)]
  exact e
/-- all but D is as it was -/
def But (D : Addr) (H H' : Hp) : Prop := ∀ c o, c ≠ D → H c = some o → H' c = some o
/-- the values are made one after another, the heap of before stays -/
theorem lc_acc (w : Walk J n G (YAt xs)) (hn : n ≤ sizeLine) (hD : H1 D = none) (hG : ∀ H, Same H1 H → G H) (A : Nat → List V → Hp → Prop) (hl : ∀ i acc H, A i acc H → acc.length ≤ i) (A0 : A 0 [] (upd H1 D (.lst [])))
    (hs : ∀ (i : Nat) (x : V) (H : Hp) (acc : List V) (Φ : V → Hp → Prop) (Ψ : Hp → Prop), i < n → xs[i]? = some x → Same H1 H → H D = some (.lst acc) → A i acc H →
      (∀ y H4, Same H H4 → H4 D = some (.lst acc) → (∀ H5, H5 D = some (.lst (acc ++ [y])) → But D H4 H5 → But D H5 H4 → A (i + 1) (acc ++ [y]) H5) → Φ y H4) →
      g x (wipe σ vs) H fun σ2 H2 => wipe σ2 vs = wipe σ vs ∧ tt σ2 H2 fun b H3 => if b = true then te σ2 H3 Φ else Ψ H3)
    (hd : ∀ H acc, Same H1 H → H D = some (.lst acc) → A n acc H → Qd H) :
    ∃ W : Nat → Nat → Hp → Prop, (∃ m, W 0 m (upd H1 D (.lst []))) ∧ ∀ i m H, W i m H →
      (J.stop i H ∧ Qd H) ∨ (J.go i H ∧ ∃ Nx : Hp → Prop, (∀ H', Nx H' → ∃ m', m' < m ∧ W (i + 1) m' H') ∧ ∀ x H', J.yld i H x H' → g x (wipe σ vs) H' fun σ2 H2 => wipe σ2 vs = wipe σ vs ∧ tt σ2 H2 fun b H3 =>
        if b = true then te σ2 H3 fun y H4 => ∃ acc, H4 D = some (.lst acc) ∧ acc.length < sizeLine ∧ Nx (upd H4 D (.lst (acc ++ [y]))) else Nx H3) := by
  refine lc_it w (fun i H => Same H1 H ∧ ∃ acc, H D = some (.lst acc) ∧ A i acc H) ⟨new_ hD, [], upd_same, A0⟩ (fun i H _ p => hG H p.1) (fun i x H H' hi p y => ?_) fun H p => ?_
  · obtain ⟨rfl, hx⟩ := y
    obtain ⟨sm, acc, hd', ha⟩ := p
    refine hs i x _ acc _ _ hi hx sm hd' ha fun y H4 s4 d4 k => ⟨acc, d4, Nat.lt_of_lt_of_le (Nat.lt_of_le_of_lt (hl _ _ _ ha) hi) hn, fun c o e => ?_, acc ++ [y], upd_same, k _ upd_same (fun c o cd e => ?_) fun c o cd e => ?_⟩
    · rw [upd_ne (ne_of_none e hD)]
      exact s4 _ _ (sm _ _ e)
    · rw [upd_ne cd]
      exact e
    · rw [upd_ne cd] at e
      exact e
  · obtain ⟨sm, acc, hd', ha⟩ := p
    exact hd H acc sm hd' ha
/-- values that do not hang on the heap -/
theorem lc_same (w : Walk J n G (YAt xs)) (hn : n ≤ sizeLine) (hD : H1 D = none) (hG : ∀ H, Same H1 H → G H) (ys : List V) (hy : ys.length = n)
    (hs : ∀ (i : Nat) (x y : V) (H : Hp) (Φ : V → Hp → Prop) (Ψ : Hp → Prop), xs[i]? = some x → ys[i]? = some y → Same H1 H → (∀ H4, Same H H4 → Φ y H4) →
      g x (wipe σ vs) H fun σ2 H2 => wipe σ2 vs = wipe σ vs ∧ tt σ2 H2 fun b H3 => if b = true then te σ2 H3 Φ else Ψ H3)
    (hd : ∀ H, Same H1 H → H D = some (.lst ys) → Qd H) :
    ∃ W : Nat → Nat → Hp → Prop, (∃ m, W 0 m (upd H1 D (.lst []))) ∧ ∀ i m H, W i m H →
      (J.stop i H ∧ Qd H) ∨ (J.go i H ∧ ∃ Nx : Hp → Prop, (∀ H', Nx H' → ∃ m', m' < m ∧ W (i + 1) m' H') ∧ ∀ x H', J.yld i H x H' → g x (wipe σ vs) H' fun σ2 H2 => wipe σ2 vs = wipe σ vs ∧ tt σ2 H2 fun b H3 =>
        if b = true then te σ2 H3 fun y H4 => ∃ acc, H4 D = some (.lst acc) ∧ acc.length < sizeLine ∧ Nx (upd H4 D (.lst (acc ++ [y]))) else Nx H3) := by
  refine lc_acc w hn hD hG (fun i acc _ => acc = ys.take i) (fun i acc H e => by rw [e, List.length_take]; omega) (by rw [List.take_zero]) (fun i x H acc Φ Ψ hi hx sm hd' ha k => ?_) fun H acc sm hd' ha => hd H sm ?_
  · have hi' : i < ys.length := by omega
    have ey : ys[i]? = some ys[i] := List.getElem?_eq_getElem hi'
    refine hs i x ys[i] H Φ Ψ hx ey sm fun H4 s4 => k _ H4 s4 (s4 _ _ hd') fun H5 _ _ _ => ?_
    rw [ha, List.take_add_one, ey]
    rfl
  · rw [hd', ha, ← hy, List.take_length]
end
/-! ### x in an instance with the own method -/
section
variable {X : Cx} {CX : CXT} {k : Nat} {C f : Addr} {fd : FuncData} {ps : List Str} {sp : Sp} {E : XK}
theorem op_inOwn (hs : PySem.W.findIn X.K (.ref C) "__contains__" = some (some (.ref f))) (hf : PySem.W.isFn X.K (.ref f) = true) (F : FnOk X.prog X.w X.K X.mg X.base CX k f fd ps sp) (hr : Room k X.A) (hb : Binds X.K fd ps []) (hx : Passes CX X E) :
    OpR X (compareOp .In) (fun x y H Q => ∃ a dx fs, y = .ref a ∧ H a = some (.ins C dx fs) ∧ sp [.ref a, x] H (fun v H' => ∃ b, v = .bl b ∧ Q (.bl b) H') E) := by
  intro pins s σ H x y v u Q I rx ry h
  obtain ⟨a, dx, fs, rfl, ha, q⟩ := h
  cases ry
  obtain ⟨mA, J, _⟩ := ins_get I.hok ha
  obtain ⟨od, J, _⟩ := J.look
  obtain ⟨m, hF⟩ := I.fr
  refine PySem.W.in_K hF I.ok.mod.kin J hs hf ?_
  refine wpAny_mono (run_fn (us := [.ref a, v]) (vs := [.ref a, x]) F hr hb .nil hx I (.cons rfl (.cons rx .nil)) q) (fun w s' z => ?_) fun _ _ z => z
  obtain ⟨v', H', I', rv, b, rfl, q'⟩ := z
  cases rv
  exact wpAny_truthy_bool ⟨.bl b, H', I', rfl, q'⟩
theorem op_notInOwn (hs : PySem.W.findIn X.K (.ref C) "__contains__" = some (some (.ref f))) (hf : PySem.W.isFn X.K (.ref f) = true) (F : FnOk X.prog X.w X.K X.mg X.base CX k f fd ps sp) (hr : Room k X.A) (hb : Binds X.K fd ps []) (hx : Passes CX X E) :
    OpR X (compareOp .NotIn) (fun x y H Q => ∃ a dx fs, y = .ref a ∧ H a = some (.ins C dx fs) ∧ sp [.ref a, x] H (fun v H' => ∃ b, v = .bl b ∧ Q (.bl (!b)) H') E) := by
  intro pins s σ H x y v u Q I rx ry h
  obtain ⟨a, dx, fs, rfl, ha, q⟩ := h
  cases ry
  obtain ⟨mA, J, _⟩ := ins_get I.hok ha
  obtain ⟨od, J, _⟩ := J.look
  obtain ⟨m, hF⟩ := I.fr
  refine PySem.W.notIn_K hF I.ok.mod.kin J hs hf ?_
  refine wpAny_mono (run_fn (us := [.ref a, v]) (vs := [.ref a, x]) F hr hb .nil hx I (.cons rfl (.cons rx .nil)) q) (fun w s' z => ?_) fun _ _ z => z
  obtain ⟨v', H', I', rv, b, rfl, q'⟩ := z
  cases rv
  exact wpAny_truthy_bool ⟨.bl (!b), H', I', rfl, q'⟩
end
end L2

set_option maxHeartbeats 2000000
namespace L2
open PySem PySem.Spec PyProof.Rows RZ
/-! ### zip, slices of lists and tuples -/
theorem walk_zipT {K : PySem.W.Frag} {a b : Addr} {xs ys : List V} {n : Nat} (hn : n = min xs.length ys.length) : Walk (ItzT K a b) n (fun H => SqT K H a xs ∧ SqT K H b ys) (YPair (fun i => xs[i]?) (fun i => ys[i]?)) :=
  ⟨fun i H hi q => ⟨xs, ys, xs[i]'(by omega), ys[i]'(by omega), q.1, q.2, List.getElem?_eq_getElem _, List.getElem?_eq_getElem _⟩,
    fun H q => ⟨xs, ys, q.1, q.2, by omega⟩, fun i H v H' hi q y => by
      obtain ⟨T, x, y', rfl, hT, rfl, f1, f2⟩ := y
      exact ⟨T, x, y', rfl, hT, rfl, f1 xs q.1, f2 ys q.2⟩⟩
def ItZk (K : PySem.W.Frag) (k : Kind) (a b : Addr) : It := match k with
  | .l => Itz K a b
  | .t => ItzT K a b
theorem walk_zk {K : PySem.W.Frag} {k : Kind} {a b : Addr} {xs ys : List V} {n : Nat} (hn : n = min xs.length ys.length) : Walk (ItZk K k a b) n (fun H => Sk K k H a xs ∧ Sk K k H b ys) (YPair (fun i => xs[i]?) (fun i => ys[i]?)) := by
  cases k
  · exact walk_zip hn
  · exact walk_zipT hn
theorem zip_k {K : PySem.W.Frag} {k : Kind} {H : Hp} {a b : Addr} {xs ys : List V} {R : It → Hp → Prop} (ha : Sk K k H a xs) (hb : Sk K k H b ys) (h : R (ItZk K k a b) H) :
    (SqL K H a xs ∧ SqL K H b ys ∧ R (Itz K a b) H) ∨ (SqT K H a xs ∧ SqT K H b ys ∧ R (ItzT K a b) H) := by
  cases k
  · exact .inl ⟨ha, hb, h⟩
  · exact .inr ⟨ha, hb, h⟩
theorem cut_all {xs : List V} {lo hi : Option Int} (h : HT.sIx xs.length 0 lo = 0 ∧ HT.sIx xs.length xs.length hi = xs.length) : cutV xs lo hi = xs := by
  unfold cutV
  rw [h.1, h.2, List.drop_zero, Nat.sub_zero, List.take_length]
theorem sl_k {K : PySem.W.Frag} {k : Kind} {H : Hp} {a : Addr} {xs : List V} {lo hi : Option Int} {Q : V → Hp → Prop} (ha : Sk K k H a xs) (h : ∀ p H', Same H H' → Sk K k H' p (cutV xs lo hi) → Q (.ref p) H') :
    rSlL K (.ref a) lo hi H Q ∨ rSlA K (.ref a) lo hi H Q := by
  cases k
  · exact .inl ⟨a, xs, rfl, ha, fun p hp => h p _ (new_ hp) (SqL.of upd_same)⟩
  · exact .inr ⟨a, xs, rfl, ha, fun w => h a H (fun _ _ e => e) (by rw [cut_all w]; exact ha), fun _ p hp => h p _ (new_ hp) (SqT.of upd_same)⟩
theorem cut_1 (xs : List V) : cutV xs (some (1 : Int)) none = xs.drop 1 := by
  unfold cutV
  rw [show (1 : Int) = ((1 : Nat) : Int) from rfl, HT.sIx_nat, HT.sIx_none]
  rcases Nat.eq_zero_or_pos xs.length with h | h
  · have : xs = [] := List.length_eq_zero_iff.mp h
    subst this
    rfl
  · rw [Nat.min_eq_left h, List.take_of_length_le (by rw [List.length_drop]; exact Nat.le_refl _)]
theorem cut_to (xs : List V) (n : Nat) : cutV xs none (some (n : Int)) = xs.take n := by
  unfold cutV
  rw [HT.sIx_nat, HT.sIx_none, List.drop_zero, Nat.sub_zero]
  rcases Nat.le_total n xs.length with h | h
  · rw [Nat.min_eq_left h]
  · rw [Nat.min_eq_right h, List.take_length, List.take_of_length_le h]
/-! ### small words -/
theorem take_succ' {α : Type} {l : List α} {i : Nat} {x : α} (h : l[i]? = some x) : l.take (i + 1) = l.take i ++ [x] := by
  rw [List.take_add_one, h]
  rfl
theorem ifD_no {p A B : Prop} [Decidable p] (h : ¬ p) (q : B) : if decide p = true then A else B := by
  rw [decide_eq_false h]
  exact iteF q
theorem ifD_yes {p A B : Prop} [Decidable p] (h : p) (q : A) : if decide p = true then A else B := by
  rw [decide_eq_true h]
  exact iteT q
theorem ifD_2 {p A B : Prop} [Decidable p] (h1 : p → A) (h2 : ¬ p → B) : if decide p = true then A else B := by
  by_cases h : p
  · exact ifD_yes h (h1 h)
  · exact ifD_no h (h2 h)
theorem ifB_2 {b : Bool} {A B : Prop} (h1 : b = true → A) (h2 : b = false → B) : if b = true then A else B := by
  cases b
  · exact iteF (h2 rfl)
  · exact iteT (h1 rfl)
theorem Same.none {H H' : Hp} {x : Addr} (s : Same H H') (h : H' x = Option.none) : H x = Option.none := by
  cases e : H x with
  | none => rfl
  | some o => rw [s _ _ e] at h; cases h
theorem all_true (n : Nat) : (List.replicate n true).all id = true := by
  rw [List.all_eq_true]
  intro x hx
  rw [(List.mem_replicate.mp hx).2]
  rfl
theorem boot_isi : bootBuiltins "isinstance" = some (.builtin "isinstance") := by decide +kernel
theorem boot_int' : bootBuiltins "int" = some (.type "int") := by decide +kernel
theorem boot_bool' : bootBuiltins "bool" = some (.type "bool") := by decide +kernel
theorem boot_tuple' : bootBuiltins "tuple" = some (.type "tuple") := by decide +kernel
theorem boot_list' : bootBuiltins "list" = some (.type "list") := by decide +kernel
theorem boot_all' : bootBuiltins "all" = some (.builtin "all") := by decide +kernel
structure Df (K : PySem.W.Frag) (mg : Str → Option Value) (x : Str) (st : Stmt) (f : Addr) (fd : FuncData) (ps : List Str) : Prop where
  F : Fun K x x st f fd
  B : Binds K fd ps []
  M : mg x = some (.ref f)
def rTupK (K : PySem.W.Frag) : List V → Hp → (V → Hp → Prop) → Prop := fun xs H Q => ∃ p ys, xs = [.ref p] ∧ ((SqL K H p ys ∧ ∀ l, H l = none → Q (.ref l) (upd H l (.tup ys))) ∨ (SqT K H p ys ∧ Q (.ref p) H))
theorem call_tupleK {X : Cx} {K : PySem.W.Frag} (h : X.K = K) : CallR X (.type "tuple") (rTupK K) := h ▸ call_tuple_of
def rLstK (K : PySem.W.Frag) : List V → Hp → (V → Hp → Prop) → Prop := fun xs H Q => ∃ p ys, xs = [.ref p] ∧ (SqL K H p ys ∨ SqT K H p ys) ∧ ∀ l, H l = none → Q (.ref l) (upd H l (.lst ys))
theorem call_listK {X : Cx} {K : PySem.W.Frag} (h : X.K = K) : CallR X (.type "list") (rLstK K) := h ▸ call_list_of
def rLenK (K : PySem.W.Frag) : List V → Hp → (V → Hp → Prop) → Prop := fun xs H Q => ∃ p ys, xs = [.ref p] ∧ (SqL K H p ys ∨ SqT K H p ys) ∧ Q (.int ys.length) H
theorem call_lenK {X : Cx} {K : PySem.W.Frag} (h : X.K = K) : CallR X (.builtin "len") (rLenK K) := h ▸ call_len_seq
def rIxTK (K : PySem.W.Frag) : R2 := fun x y H Q => ∃ p xs i v, x = .ref p ∧ y = .int i ∧ SqT K H p xs ∧ atI xs i = some v ∧ Q v H
theorem ix_tupK {X : Cx} {K : PySem.W.Frag} (h : X.K = K) : IxR X (rIxTK K) := h ▸ ix_tup
/-! ### what stands at each place of a list of references -/
def Ea {α : Type} (H : Hp) (P : Hp → Addr → α → Prop) (xs : List V) (ds : List α) : Prop := xs.length = ds.length ∧ ∀ (i : Nat) (x : V) (r : α), xs[i]? = some x → ds[i]? = some r → ∃ c, x = .ref c ∧ P H c r
section
variable {α : Type} {H H' : Hp} {P P' : Hp → Addr → α → Prop} {xs ys : List V} {ds es : List α} {c : Addr} {r : α}
theorem Ea.imp (e : Ea H P xs ds) (f : ∀ c r, P H c r → P' H' c r) : Ea H' P' xs ds := ⟨e.1, fun i x r h1 h2 => let ⟨c, hx, q⟩ := e.2 i x r h1 h2; ⟨c, hx, f c r q⟩⟩
theorem Ea.nil : Ea H P [] [] := ⟨rfl, fun i x r h _ => by simp at h⟩
theorem Ea.append (e : Ea H P xs ds) (e' : Ea H P ys es) : Ea H P (xs ++ ys) (ds ++ es) := by
  refine ⟨by rw [List.length_append, List.length_append, e.1, e'.1], fun i x r h1 h2 => ?_⟩
  rcases Nat.lt_or_ge i xs.length with hi | hi
  · rw [List.getElem?_append_left hi] at h1
    rw [List.getElem?_append_left (by rw [← e.1]; exact hi)] at h2
    exact e.2 i x r h1 h2
  · rw [List.getElem?_append_right hi] at h1
    rw [List.getElem?_append_right (by rw [← e.1]; exact hi), ← e.1] at h2
    exact e'.2 _ x r h1 h2
theorem Ea.one (q : P H c r) : Ea H P [.ref c] [r] := by
  refine ⟨rfl, fun i x r' h1 h2 => ?_⟩
  match i, h1, h2 with
  | 0, h1, h2 =>
    cases h1
    cases h2
    exact ⟨c, rfl, q⟩
  | (j + 1), h1, _ => simp at h1
theorem Ea.push (e : Ea H P xs ds) (q : P H c r) : Ea H P (xs ++ [.ref c]) (ds ++ [r]) := e.append (.one q)
theorem Ea.get (e : Ea H P xs ds) {i : Nat} {r : α} (h : ds[i]? = some r) : ∃ c, xs[i]? = some (.ref c) ∧ P H c r := by
  have hi : i < xs.length := by rw [e.1]; exact (List.getElem?_eq_some_iff.mp h).1
  obtain ⟨c, hc, q⟩ := e.2 i _ r (List.getElem?_eq_getElem hi) h
  exact ⟨c, by rw [List.getElem?_eq_getElem hi, hc], q⟩
theorem Ea.at_ (e : Ea H P xs ds) {i : Nat} {x : V} (h : xs[i]? = some x) : ∃ c r, x = .ref c ∧ ds[i]? = some r ∧ P H c r := by
  have hi : i < ds.length := by rw [← e.1]; exact (List.getElem?_eq_some_iff.mp h).1
  obtain ⟨c, hc, q⟩ := e.2 i _ _ h (List.getElem?_eq_getElem hi)
  exact ⟨c, _, hc, List.getElem?_eq_getElem hi, q⟩
end
/-- a tuple at c of what r is written as -/
def TupOf {α : Type} (f : α → List V) (H : Hp) (c : Addr) (r : α) : Prop := H c = some (.tup (f r))
section
variable {α : Type} {f : α → List V} {H H' : Hp} {xs : List V} {ds : List α} {c p C dx : Addr} {r : α}
theorem TupOf.lst {ys zs : List V} (q : TupOf f H c r) (hD : H p = some (.lst ys)) : TupOf f (upd H p (.lst zs)) c r := by
  unfold TupOf
  rw [upd_ne (ne_of (H := H) q hD (by intro z; cases z))]
  exact q
theorem TupOf.ins {fs : List (Str × V)} {o : HO} (q : TupOf f H c r) (hp : H p = some (.ins C dx fs)) : TupOf f (upd H p o) c r := by
  unfold TupOf
  rw [upd_ne (ne_of (H := H) q hp (by intro z; cases z))]
  exact q
theorem TupOf.but {ys : List V} (q : TupOf f H c r) (hD : H p = some (.lst ys)) (b : But p H H') : TupOf f H' c r := b _ _ (ne_of (H := H) q hD (by intro z; cases z)) q
theorem Ea.same (e : Ea H (TupOf f) xs ds) (s : Same H H') : Ea H' (TupOf f) xs ds := e.imp fun c r q => s _ _ q
end
end L2

set_option maxHeartbeats 2000000
namespace PA
/-- below 2 ^ n in size -/
abbrev Sm (n : Nat) (x : Int) : Prop := x.natAbs < 2 ^ n
theorem Sm.mono {n m : Nat} {x : Int} (h : Sm n x) (hn : n ≤ m) : Sm m x := Nat.lt_of_lt_of_le h (Nat.pow_le_pow_right (by decide) hn)
theorem Sm.mul {n m k : Nat} {x y : Int} (hx : Sm n x) (hy : Sm m y) (h : n + m ≤ k) : Sm k (x * y) := by
  refine Sm.mono (n := n + m) ?_ h
  unfold Sm
  rw [Int.natAbs_mul, Nat.pow_add]
  exact Nat.mul_lt_mul'' hx hy
theorem Sm.add {n k : Nat} {x y : Int} (hx : Sm n x) (hy : Sm n y) (h : n + 1 ≤ k) : Sm k (x + y) := by
  refine Sm.mono (n := n + 1) ?_ h
  unfold Sm at *
  rw [Nat.pow_succ]
  omega
theorem Sm.sub {n k : Nat} {x y : Int} (hx : Sm n x) (hy : Sm n y) (h : n + 1 ≤ k) : Sm k (x - y) := by
  refine Sm.mono (n := n + 1) ?_ h
  unfold Sm at *
  rw [Nat.pow_succ]
  omega
theorem Sm.neg {n : Nat} {x : Int} (hx : Sm n x) : Sm n (-x) := by
  unfold Sm at *
  rw [Int.natAbs_neg]
  exact hx
theorem Sm.le {n : Nat} {x y : Int} (hx : Sm n x) (h : y.natAbs ≤ x.natAbs) : Sm n y := Nat.lt_of_le_of_lt h hx
theorem Sm.one {n : Nat} (h : 0 < n) : Sm n 1 := by
  show (1 : Int).natAbs < 2 ^ n
  exact Nat.one_lt_two_pow (by omega)

/-- the divisor that a Ratio shortens by -/
def shr (t b : Int) : Int := if b < 0 then -((Nat.gcd t.natAbs b.natAbs : Nat) : Int) else ((Nat.gcd t.natAbs b.natAbs : Nat) : Int)
/-- lowest terms -/
structure Low (T B : Int) : Prop where
  pos : 0 < B
  cop : Nat.gcd T.natAbs B.natAbs = 1
theorem low_one (i : Int) : Low i 1 := ⟨by decide, Nat.gcd_one_right _⟩
theorem gcd_key {a b c d g : Nat} (h1 : a = c * g) (h2 : b = d * g) : Nat.gcd a b = Nat.gcd c d * g := by
  rw [h1, h2]
  exact Nat.gcd_mul_right _ _ _
theorem rat_mk {t b : Int} (hb : b ≠ 0) : shr t b ≠ 0 ∧ (shr t b).natAbs ≤ b.natAbs ∧ Low (t.fdiv (shr t b)) (b.fdiv (shr t b)) ∧ (t.fdiv (shr t b)) * b = t * (b.fdiv (shr t b)) ∧
    (t.fdiv (shr t b)).natAbs ≤ t.natAbs ∧ (b.fdiv (shr t b)).natAbs ≤ b.natAbs := by
  have hg : 0 < Nat.gcd t.natAbs b.natAbs := Nat.gcd_pos_of_pos_right _ (Int.natAbs_pos.mpr hb)
  have hgb : Nat.gcd t.natAbs b.natAbs ≤ b.natAbs := Nat.gcd_le_right _ (Int.natAbs_pos.mpr hb)
  have hsn : (shr t b).natAbs = Nat.gcd t.natAbs b.natAbs := by
    unfold shr
    split
    · rw [Int.natAbs_neg, Int.natAbs_natCast]
    · rw [Int.natAbs_natCast]
  have hs0 : shr t b ≠ 0 := by
    intro z
    rw [z] at hsn
    simp at hsn
    omega
  have dv : ∀ y : Int, (Nat.gcd t.natAbs b.natAbs) ∣ y.natAbs → ∃ q : Int, y = q * shr t b := by
    intro y hy
    have h1 : ((Nat.gcd t.natAbs b.natAbs : Nat) : Int) ∣ y := Int.ofNat_dvd_left.mpr hy
    obtain ⟨q, hq⟩ := h1
    unfold shr
    split
    · exact ⟨-q, by rw [Int.neg_mul_neg, Int.mul_comm]; exact hq⟩
    · exact ⟨q, by rw [Int.mul_comm]; exact hq⟩
  obtain ⟨T, hT⟩ := dv t (Nat.gcd_dvd_left _ _)
  obtain ⟨B, hB⟩ := dv b (Nat.gcd_dvd_right _ _)
  have eT : t.fdiv (shr t b) = T := by
    conv => lhs; lhs; rw [hT]
    exact Int.mul_fdiv_cancel _ hs0
  have eB : b.fdiv (shr t b) = B := by
    conv => lhs; lhs; rw [hB]
    exact Int.mul_fdiv_cancel _ hs0
  rw [eT, eB]
  have nT : t.natAbs = T.natAbs * Nat.gcd t.natAbs b.natAbs := by
    conv => lhs; rw [hT, Int.natAbs_mul, hsn]
  have nB : b.natAbs = B.natAbs * Nat.gcd t.natAbs b.natAbs := by
    conv => lhs; rw [hB, Int.natAbs_mul, hsn]
  refine ⟨hs0, by rw [hsn]; exact hgb, ⟨?_, ?_⟩, ?_, ?_, ?_⟩
  · have hB0 : B ≠ 0 := by
      intro z
      rw [z, Int.zero_mul] at hB
      exact hb hB
    rcases Int.lt_or_gt_of_ne hB0 with h | h
    · exfalso
      unfold shr at hB
      split at hB
      · rename_i hneg
        have : 0 < B * -((Nat.gcd t.natAbs b.natAbs : Nat) : Int) := Int.mul_pos_of_neg_of_neg h (by omega)
        omega
      · rename_i hneg
        have : B * ((Nat.gcd t.natAbs b.natAbs : Nat) : Int) < 0 := Int.mul_neg_of_neg_of_pos h (by omega)
        omega
    · exact h
  · have e : Nat.gcd t.natAbs b.natAbs = Nat.gcd T.natAbs B.natAbs * Nat.gcd t.natAbs b.natAbs := by
      exact gcd_key nT nB
    have e2 : 1 * Nat.gcd t.natAbs b.natAbs = Nat.gcd T.natAbs B.natAbs * Nat.gcd t.natAbs b.natAbs := by rw [Nat.one_mul]; exact e
    exact (Nat.eq_of_mul_eq_mul_right hg e2).symm
  · calc T * b = T * (B * shr t b) := by rw [← hB]
      _ = (T * shr t b) * B := by rw [Int.mul_comm B, ← Int.mul_assoc]
      _ = t * B := by rw [← hT]
  · rw [nT]; exact Nat.le_mul_of_pos_right _ hg
  · rw [nB]; exact Nat.le_mul_of_pos_right _ hg
/-- a fraction has one lowest form -/
theorem Low.uniq {T B T' B' : Int} (h : Low T B) (h' : Low T' B') (e : T * B' = T' * B) : T = T' ∧ B = B' := by
  have n : T.natAbs * B'.natAbs = T'.natAbs * B.natAbs := by rw [← Int.natAbs_mul, ← Int.natAbs_mul, e]
  have d1 : B.natAbs ∣ B'.natAbs := by
    have : B.natAbs ∣ T.natAbs * B'.natAbs := ⟨T'.natAbs, by rw [n, Nat.mul_comm]⟩
    exact (Nat.Coprime.symm h.cop).dvd_of_dvd_mul_left this
  have d2 : B'.natAbs ∣ B.natAbs := by
    have : B'.natAbs ∣ T'.natAbs * B.natAbs := ⟨T.natAbs, by rw [← n, Nat.mul_comm]⟩
    exact (Nat.Coprime.symm h'.cop).dvd_of_dvd_mul_left this
  have eB : B = B' := by
    have := Nat.dvd_antisymm d1 d2
    have p1 := h.pos
    have p2 := h'.pos
    omega
  subst eB
  have hB : B ≠ 0 := by have := h.pos; omega
  exact ⟨Int.eq_of_mul_eq_mul_right hB e, rfl⟩
theorem Low.neg {T B : Int} (h : Low T B) : Low (-T) B := ⟨h.pos, by rw [Int.natAbs_neg]; exact h.cop⟩
/-- a = n / d and b = n / d -/
theorem cross {a b n d x y : Int} (hb : b ≠ 0) (h1 : a * d = n * b) (h2 : n * y = x * d) (hd : d ≠ 0) : a * y = x * b := by
  have : (a * y) * d = (x * b) * d := by
    calc (a * y) * d = (a * d) * y := by rw [Int.mul_assoc, Int.mul_comm y, ← Int.mul_assoc]
      _ = (n * b) * y := by rw [h1]
      _ = (n * y) * b := by rw [Int.mul_assoc, Int.mul_comm b, ← Int.mul_assoc]
      _ = (x * d) * b := by rw [h2]
      _ = (x * b) * d := by rw [Int.mul_assoc, Int.mul_comm d, ← Int.mul_assoc]
  exact Int.eq_of_mul_eq_mul_right hd this
end PA

set_option maxHeartbeats 4000000
namespace PA
open PySem L2 RZ
open C8 (pss_cut tCut)
def top (i : Nat) : Stmt := PySem.Challenge.pw_pairahead_k24_whole_joined_claims.main.body.getD i (.Pass ⟨0, 0, 0, 0⟩)
abbrev sIsInt : Stmt := top 4
abbrev sBelow : Stmt := top 5
abbrev sAfter : Stmt := top 9
abbrev sInit : Stmt := inClass (top 27) 0
abbrev sCheck : Stmt := top 28
abbrev sIsRow : Stmt := top 29
/-! ### data: entries, lines -/
abbrev Ln := Option Nat × Option Nat
def ev : Option Nat → V
  | none => .non
  | some n => .int (n : Int)
def lv (l : Ln) : List V := [ev l.1, ev l.2]
def EOk (n : Nat) (o : Option Nat) : Prop := ∀ a, o = some a → a < n
def LOk (n : Nat) (l : Ln) : Prop := EOk n l.1 ∧ EOk n l.2
structure GoodL (ls : List Ln) : Prop where
  one : 1 ≤ ls.length
  most : ls.length ≤ 48
  ok : ∀ l ∈ ls, LOk ls.length l
abbrev isLn : Hp → Addr → Ln → Prop := TupOf lv
/-- the state behind one more call -/
def nxt (ls : List Ln) (s : Option Nat) (same : Bool) : Option Nat := s.bind fun i => (ls[i]?).bind fun l => if same = true then l.1 else l.2
def walk (ls : List Ln) : Option Nat → Int → List Int → Option Nat
  | s, _, [] => s
  | s, b, c :: r => walk ls (nxt ls s (decide (c = b))) c r
def aft (ls : List Ln) : List Int → Option Nat
  | [] => some 0
  | c :: r => walk ls (some 0) c r
structure Txt (K : PySem.W.Frag) (mg : Str → Option Value) : Prop where
  isi : mg "isinstance" = none
  int_ : mg "int" = none
  bool_ : mg "bool" = none
  list_ : mg "list" = none
  tup_ : mg "tuple" = none
  len_ : mg "len" = none
  all_ : mg "all" = none
  zip_ : mg "zip" = none
  range_ : mg "range" = none
  enum_ : mg "enumerate" = none
  most : ∃ t, mg "MOST_ROWS" = some (.int 48 t)
/-! ### promises -/
def spIsInt : Sp := fun vs H Q _ => ∃ i, vs = [.int i] ∧ Q (.bl true) H
def spBelow : Sp := fun vs H Q _ => ∃ v c : Int, vs = [.int v, .int c] ∧ 0 ≤ v ∧ v < c ∧ Q (.bl true) H
section
variable {P : Program} {w : World} {K : PySem.W.Frag} {mg : Str → Option Value} {base : Heap} {C : Addr}
theorem scIsInt : FnScope ["value"] ["value"] (defScope sIsInt) := ⟨rfl, rfl, rfl, by decide +kernel, rfl, by decide +kernel, by decide +kernel⟩
theorem ok_isInt {f : Addr} {fd : FuncData} (F : Fun K "is_integer" "is_integer" sIsInt f fd) (T : Txt K mg) : FnOk P w K mg base CX0 1 f fd ["value"] spIsInt := by
  refine F.ok scIsInt (fun vs H Q E h => ?_) (fun cdv A outer s H vs Q E hr h => ?_)
  · obtain ⟨i, rfl, _⟩ := h
    rfl
  · obtain ⟨i, rfl, k⟩ := h
    refine ⟨_, pss_one (ps_ret (pe_and (pe_callB call_isi (by rfl) T.isi boot_isi (pa_cons (pv 0) (pa_cons (pe_bltn (v := .ty "int") (by rfl) T.int_ boot_int' rfl) pa_nil)))
      (pe_one (pe_not (pe_callB call_isi (by rfl) T.isi boot_isi (pa_cons (pv 0) (pa_cons (pe_bltn (v := .ty "bool") (by rfl) T.bool_ boot_bool' rfl) pa_nil))))))), ?_⟩
    refine ⟨_, rfl, _, _, _, _, _, rfl, .ty _, .base (.int i), kit_ty (b := "int") (r := true) (by decide +kernel), _, rfl, iteT ?_⟩
    exact ⟨_, rfl, _, _, _, _, _, rfl, .ty _, .base (.int i), kit_ty (b := "bool") (r := false) (by decide +kernel), _, rfl, k⟩
theorem scBelow : FnScope ["value", "count"] ["value", "count"] (defScope sBelow) := ⟨rfl, rfl, rfl, by decide +kernel, rfl, by decide +kernel, by decide +kernel⟩
theorem ok_below {f g : Addr} {fd gd : FuncData} (F : Fun K "is_below" "is_below" sBelow f fd) (T : Txt K mg) (D : Df K mg "is_integer" sIsInt g gd ["value"]) : FnOk P w K mg base CX0 2 f fd ["value", "count"] spBelow := by
  have G : FnOk P w K mg base CX0 1 g gd ["value"] spIsInt := ok_isInt D.F T
  refine F.ok scBelow (fun vs H Q E h => ?_) (fun cdv A outer s H vs Q E hr h => ?_)
  · obtain ⟨v, c, rfl, _⟩ := h
    rfl
  · obtain ⟨v, c, rfl, h0, h1, k⟩ := h
    refine ⟨_, pss_one (ps_ret (pe_and (pe_call G hr rfl D.M D.F.kp D.B .nil pass0 (pa_cons (pv 0) pa_nil)) (pe_one (pe_chain op_le op_lt pe_int (pv 0) (pv 1))))), ?_⟩
    refine ⟨_, rfl, v, rfl, _, rfl, iteT ?_⟩
    refine ⟨_, rfl, _, _, rfl, rfl, _, rfl, ifD_yes h0 ⟨_, rfl, _, _, rfl, rfl, ?_⟩⟩
    show Q (V.bl (decide (v < c))) H
    rw [decide_eq_true h1]
    exact k
end
end PA

set_option maxHeartbeats 4000000
namespace PA
open PySem L2 RZ
open C8 (pss_cut tCut)
/-- a tuple or a list at c of what r is written as -/
def TLOf {α : Type} (f : α → List V) (H : Hp) (c : Addr) (r : α) : Prop := H c = some (.tup (f r)) ∨ H c = some (.lst (f r))
def rsf (T : Addr) : List (Str × V) := putF "rows" (.ref T) []
theorem rsf_rows (T : Addr) : (rsf T).lookup ("rows" : Str) = some (.ref T) := by
  unfold rsf
  rw [lookup_putF, if_pos rfl]
theorem rsf_no (T : Addr) {m : Str} (h1 : ¬ m = "rows") : (rsf T).lookup m = none := by
  unfold rsf
  rw [lookup_putF, if_neg h1]
  all_goals rfl
end PA

set_option maxHeartbeats 2000000
namespace PA
open PySem L2 RZ
open C8 (pss_cut tCut)
abbrev sDraw : Stmt := top 36
abbrev sStart : Stmt := top 37
abbrev sSame : Stmt := top 39
abbrev sLaw : Stmt := top 46
/-! ### data of ints -/
theorem ints_lay : ∀ ns : List Int, PyData.canLayAll0 (ns.map PyData.int) = true
  | [] => by simp [PyData.canLayAll0]
  | z :: zs => by simp [PyData.canLayAll0, PyData.canLay0, ints_lay zs]
theorem ints_depth : ∀ ns : List Int, PyData.depthAll (ns.map PyData.int) ≤ 2
  | [] => by simp [PyData.depthAll]
  | z :: zs => by
    have h1 := ints_depth zs
    simp only [List.map_cons, PyData.depthAll, PyData.depth]
    omega
theorem ints_shaped (ns : List Int) : SeqAt.shaped (.list (ns.map PyData.int)) = true := by
  have h1 := ints_depth ns
  have h2 : PyData.depth (.list (ns.map PyData.int)) ≤ 64 := by
    simp only [PyData.depth]
    omega
  show (PyData.canLay0 (.list (ns.map PyData.int)) && decide (PyData.depth (.list (ns.map PyData.int)) ≤ 64)) = true
  rw [Bool.and_eq_true]
  exact ⟨by simp only [PyData.canLay0]; exact ints_lay ns, decide_eq_true h2⟩
theorem dp_ints {K : PySem.W.Frag} {H : Hp} : ∀ ns : List Int, DpAll K H (ns.map V.int) (ns.map PyData.int)
  | [] => .nil
  | z :: zs => .cons (.int z) (dp_ints zs)
theorem ints_nil (ns : List Int) : PyData.eqv (.list (ns.map PyData.int)) (.list []) = ns.isEmpty := by
  cases ns with
  | nil => simp [PyData.eqv, PyData.eqvAll]
  | cons z zs => simp [PyData.eqv, PyData.eqvAll]
/-! ### the stream of draws: the list at a, the numbers left at l, n draws made -/
def StreamAt (H : Hp) (a l : Addr) (n : Nat) : Prop := a ≠ l ∧ ∃ (ns : List Int) (x z : Int), H a = some (.lst [.ref l, .int x, .int (n : Int), .int z]) ∧ H l = some (.lst (ns.map V.int)) ∧ ns.length ≤ 63 ∧ 0 ≤ x ∧ 0 ≤ z ∧ z < 2147483647
/-- all but the stream is kept -/
def Keep (a l : Addr) (H H' : Hp) : Prop := ∀ c o, c ≠ a → c ≠ l → H c = some o → H' c = some o
theorem Keep.refl (a l : Addr) (H : Hp) : Keep a l H H := fun _ _ _ _ h => h
theorem Keep.trans {a l : Addr} {H H1 H2 : Hp} (h : Keep a l H H1) (h' : Keep a l H1 H2) : Keep a l H H2 := fun c o x y e => h' c o x y (h c o x y e)
theorem Keep.of {a l : Addr} {H H' : Hp} (h : Same H H') : Keep a l H H' := fun c o _ _ e => h c o e
theorem StreamAt.same {H H' : Hp} {a l : Addr} {n : Nat} (h : StreamAt H a l n) (s : Same H H') : StreamAt H' a l n := by
  obtain ⟨ne, ns, x, z, h1, h2, h3⟩ := h
  exact ⟨ne, ns, x, z, s _ _ h1, s _ _ h2, h3⟩
def spDraw : Sp := fun vs H Q _ => ∃ (a l : Addr) (n : Nat) (many : Int), vs = [.ref a, .int many] ∧ StreamAt H a l n ∧ n ≤ 100000 ∧ 0 < many ∧ Sm 9000 many ∧
  ∀ (r : Int) (H' : Hp), 0 ≤ r → r < many → StreamAt H' a l (n + 1) → Keep a l H H' → Q (.int r) H'
section
variable {P : Program} {w : World} {K : PySem.W.Frag} {mg : Str → Option Value} {base : Heap} {C : Addr}
theorem scDraw : FnScope ["_law_stream", "_law_many", "_law_digit", "_law_mixed"] ["_law_stream", "_law_many"] (defScope sDraw) := ⟨rfl, rfl, rfl, by decide +kernel, rfl, by decide +kernel, by decide +kernel⟩
theorem ok_draw {f : Addr} {fd : FuncData} (F : Fun K "_law_draw" "_law_draw" sDraw f fd) (T : Txt K mg) : FnOk P w K mg base CX0 1 f fd ["_law_stream", "_law_many"] spDraw := by
  refine F.ok scDraw (fun vs H Q E h => ?_) (fun cdv A outer s H vs Q E hr h => ?_)
  · obtain ⟨a, l, n, many, rfl, _⟩ := h
    rfl
  · obtain ⟨a, l, n, many, rfl, ⟨ne, ns, x, z, h1, h2, hl, hx, hz0, hz1⟩, hn, hm, hms, k⟩ := h
    have hW : ∀ j : Int, CDivW j many := fun j => ⟨hm, Nat.lt_of_lt_of_le (PySem.Flt.log2_lt_of (by decide) hms) (Nat.le_refl _)⟩
    refine ⟨_, pss_cut (ps_asg (pe_op op_add (pe_ix ix_list (pv 0) pe_int (fun _ _ => rfl)) pe_int) (pg_sub (pv 0) pe_int set_list))
      (pss_cut (ps_if (PW.pt (pw_and (pt_cmpR op_eq (pe_ix ix_list (pv 0) pe_int (fun _ _ => rfl)) pe_int (nomark _)) (pw_and1 (pt_cmpR (op_neD hr.units) (pe_ix ix_list (pv 0) pe_int (fun _ _ => rfl)) (pe_lst pa_nil) (nomark _)))))
        (pss_cons (ps_asg (pe_bm PySem.F.plainAttrs_list PySem.F.slot_list_pop PySem.F.type_list_pop mt_popAt (pe_ix ix_list (pv 0) pe_int (fun _ _ => rfl)) (pa_cons pe_int pa_nil)) (pg_sub (pv 0) pe_int set_list))
          (pss_one (ps_if (pt_cmpR op_lt (pe_ix ix_list (pv 0) pe_int (fun _ _ => rfl)) (pe_op op_pow pe_int pe_int) (nomark _))
            (pss_cons (ps_asg (pe_op op_mod (pe_callTy call_int1 (by rfl) T.int_ boot_int' (pa_cons (pe_op op_add (pe_op op_add (pe_op op_mul (pe_ix ix_list (pv 0) pe_int (fun _ _ => rfl)) pe_int) (pe_ix ix_list (pv 0) pe_int (fun _ _ => rfl))) pe_int) pa_nil)) pe_int) (pg_sub (pv 0) pe_int set_list))
              (pss_one (ps_asg pe_int (pg_sub (pv 0) pe_int set_list)))) pss_nil))) pss_nil)
      (pss_cons (ps_if (pt_cmpR op_gt (pe_ix ix_list (pv 0) pe_int (fun _ _ => rfl)) pe_int (nomark _))
        (pss_cons (ps_set (i := 2) scDraw.nd rfl (Or.inl rfl) (pe_op op_mod (pe_callTy call_int1 (by rfl) T.int_ boot_int' (pa_cons (pe_ix ix_list (pv 0) pe_int (fun _ _ => rfl)) pa_nil)) (pv 1)))
          (pss_cons (ps_asg (pe_op op_fdivW (pe_ix ix_list (pv 0) pe_int (fun _ _ => rfl)) (pv 1)) (pg_sub (pv 0) pe_int set_list))
            (pss_one (ps_ret (pv 2))))) pss_nil)
      (pss_cons (ps_set (i := 3) scDraw.nd rfl (Or.inl rfl) (pe_op op_mod (pe_op op_pow (pe_op op_add (pe_op op_add (pe_ix ix_list (pv 0) pe_int (fun _ _ => rfl)) (pe_op op_mul pe_int (pe_ix ix_list (pv 0) pe_int (fun _ _ => rfl)))) pe_int) pe_int) pe_int))
      (pss_one (ps_ret (pe_op op_mod (pe_op op_mod (pe_op op_pow (pe_op op_add (pe_op op_add (pe_op op_mul (pv 3) pe_int) (pe_op op_mul (pe_op op_mul pe_int (pe_ix ix_list (pv 0) pe_int (fun _ _ => rfl))) (pe_ix ix_list (pv 0) pe_int (fun _ _ => rfl)))) pe_int) pe_int) pe_int) (pv 1))))))), ?_⟩
    refine ⟨fun σ' H' => σ' = [some (V.ref a), some (V.int many), none, none] ∧ H' = upd H a (.lst [.ref l, .int x, .int ((n : Int) + 1), .int z]), ?_, ?_⟩
    · exact ⟨_, rfl, a, _, 2, _, rfl, rfl, SqL.of h1, rfl, _, _, rfl, rfl, _, rfl, a, _, 2, 2, rfl, rfl, h1, rfl, rfl, rfl⟩
    rintro _ _ ⟨rfl, rfl⟩
    refine ⟨fun σ' H' => σ' = [some (V.ref a), some (V.int many), none, none] ∧ ∃ (ns' : List Int) (x' z' : Int), H' a = some (.lst [.ref l, .int x', .int ((n : Int) + 1), .int z']) ∧ H' l = some (.lst (ns'.map V.int)) ∧ ns'.length ≤ 63 ∧ 0 ≤ x' ∧ 0 ≤ z' ∧ z' < 2147483647 ∧ Keep a l H H', ?_, ?_⟩
    · have kp1 : Keep a l H (upd H a (.lst [.ref l, .int x, .int ((n : Int) + 1), .int z])) := fun c o ca _ e => by rw [upd_ne ca]; exact e
      have hl1 : (upd H a (.lst [.ref l, .int x, .int ((n : Int) + 1), .int z])) l = some (.lst (ns.map V.int)) := by rw [upd_ne ne.symm]; exact h2
      refine ⟨_, rfl, a, _, 1, _, rfl, rfl, SqL.of upd_same, rfl, rfl, _, rfl, ifD_2 (fun hx0 => ?_) (fun _ => iteF ?_)⟩
      · refine ⟨_, rfl, a, _, 0, _, rfl, rfl, SqL.of upd_same, rfl, Nat.zero_le _, fun p hp => ?_⟩
        have npa : a ≠ p := fun e => by rw [← e, upd_same] at hp; cases hp
        have npl : l ≠ p := ne_of_none hl1 hp
        have kp2 : Keep a l H (upd (upd H a (.lst [.ref l, .int x, .int ((n : Int) + 1), .int z])) p (.lst [])) := fun c o ca cl e => by
          rw [upd_ne (ne_of_none (kp1 c o ca cl e) hp)]; exact kp1 c o ca cl e
        refine ⟨.list (ns.map PyData.int), .list [], .lst (SqL.of (by rw [upd_ne npl]; exact hl1)) (dp_ints ns), .lst (SqL.of upd_same) .nil, ints_shaped ns, ints_shaped [], _, rfl, ?_⟩
        rw [ints_nil]
        cases ns with
        | nil => exact iteF ⟨rfl, [], x, z, by rw [upd_ne npa, upd_same], by rw [upd_ne npl]; exact hl1, Nat.zero_le _, hx, hz0, hz1, kp2⟩
        | cons y ys =>
          refine iteT ?_
          have ga : (upd (upd H a (.lst [.ref l, .int x, .int ((n : Int) + 1), .int z])) p (.lst [])) a = some (.lst [.ref l, .int x, .int ((n : Int) + 1), .int z]) := by rw [upd_ne npa, upd_same]
          have gl : (upd (upd H a (.lst [.ref l, .int x, .int ((n : Int) + 1), .int z])) p (.lst [])) l = some (.lst ((y :: ys).map V.int)) := by rw [upd_ne npl]; exact hl1
          generalize (upd (upd H a (.lst [.ref l, .int x, .int ((n : Int) + 1), .int z])) p (.lst [])) = Hb at ga gl kp2
          refine ⟨_, rfl, a, _, 0, _, rfl, rfl, SqL.of ga, rfl, .inl ⟨rfl, _, SqL.of gl⟩, l, _, 0, 0, .int y, rfl, rfl, gl, by decide, by decide, (ixN_seq (Evl.ixN_nat (j := 0) (by simp))).1, rfl, ?_⟩
          have ga2 : (upd Hb l (.lst (((y :: ys).map V.int).eraseIdx 0))) a = some (.lst [.ref l, .int x, .int ((n : Int) + 1), .int z]) := by rw [upd_ne ne]; exact ga
          refine ⟨_, rfl, a, _, 1, 1, rfl, rfl, ga2, rfl, ?_⟩
          have kp3 : ∀ o, Keep a l H (upd (upd Hb l (.lst (((y :: ys).map V.int).eraseIdx 0))) a o) := fun o c u ca cl e => by rw [upd_ne ca, upd_ne cl]; exact kp2 c u ca cl e
          have gl3 : ∀ o, (upd (upd Hb l (.lst (((y :: ys).map V.int).eraseIdx 0))) a o) l = some (.lst (ys.map V.int)) := fun o => by rw [upd_ne ne.symm, upd_same]; rfl
          have hys : ys.length ≤ 63 := Nat.le_trans (Nat.le_succ _) hl
          refine ⟨_, rfl, a, _, 1, _, rfl, rfl, SqL.of upd_same, rfl, 10, 18, rfl, rfl, (by show CPow 10 18; unfold CPow; decide), _, _, rfl, rfl, _, rfl, ifD_2 (fun hy => ?_) (fun hy => ?_)⟩
          · refine ⟨_, rfl, a, _, 3, _, rfl, rfl, SqL.of upd_same, rfl, _, _, rfl, rfl, .inr (by decide), _, rfl, a, _, 1, _, rfl, rfl, SqL.of upd_same, rfl, _, _, rfl, rfl, _, _, rfl, rfl, .inl ⟨_, rfl, _, _, rfl, rfl, (by show (0 : Int) < 2147483647; decide), _, rfl, a, _, 3, 3, rfl, rfl, upd_same, rfl, ?_⟩⟩
            refine ⟨_, rfl, a, _, 1, 1, rfl, rfl, upd_same, rfl, ?_⟩
            rw [upd_upd, upd_upd]
            exact ⟨rfl, ys, 0, (z * 31 + y + 7) % 2147483647, upd_same, gl3 _, hys, by decide, Int.emod_nonneg _ (by decide), Int.emod_lt_of_pos _ (by decide), kp3 _⟩
          · exact ⟨rfl, ys, y, z, upd_same, gl3 _, hys, by
              have h18 : (0 : Int) ≤ 10 ^ (18 : Int).toNat := by decide
              omega, hz0, hz1, kp3 _⟩
      · exact ⟨rfl, ns, x, z, upd_same, hl1, hl, hx, hz0, hz1, kp1⟩
    rintro _ H1 ⟨rfl, ns', x', z', g1, g2, gl, gx, gz0, gz1, kp⟩
    refine ⟨_, rfl, a, _, 1, _, rfl, rfl, SqL.of g1, rfl, _, _, rfl, rfl, _, rfl, ifD_2 (fun hp => ?_) (fun _ => ?_)⟩
    · refine ⟨_, rfl, a, _, 1, _, rfl, rfl, SqL.of g1, rfl, .inl ⟨_, rfl, _, rfl, _, _, rfl, rfl, hm, ?_⟩⟩
      refine ⟨_, rfl, a, _, 1, _, rfl, rfl, SqL.of g1, rfl, _, rfl, _, _, rfl, rfl, hW _, _, rfl, a, _, 1, 1, rfl, rfl, g1, rfl, _, rfl, ?_⟩
      refine k (x' % many) _ (Int.emod_nonneg _ (by omega)) (Int.emod_lt_of_pos _ hm) ⟨ne, ns', x' / many, z', upd_same, by rw [upd_ne ne.symm]; exact g2, gl, Int.ediv_nonneg gx (by omega), gz0, gz1⟩ fun c o ca cl e => by
        rw [upd_ne ca]; exact kp c o ca cl e
    · have hn' : (n : Int) ≤ 100000 := by omega
      have hn0 : (0 : Int) ≤ n := by omega
      refine ⟨_, rfl, a, _, 3, _, rfl, rfl, SqL.of g1, rfl, _, rfl, a, _, 2, _, rfl, rfl, SqL.of g1, rfl, _, _, rfl, rfl, .inl (by decide), _, _, rfl, rfl, _, _, rfl, rfl, _, _, rfl, rfl, ?_, _, _, rfl, rfl, (by show (0 : Int) < 2147483629; decide), ?_⟩
      · show CPow _ 5
        refine ⟨by decide, by decide, ?_⟩
        have e64 : (2 : Nat) ^ 64 = 18446744073709551616 := by decide
        rw [e64]
        omega
      · generalize hmx : ((z' + 104729 * ((n : Int) + 1) + 17) ^ (5 : Int).toNat) % 2147483629 = mx
        have m0 : 0 ≤ mx := by rw [← hmx]; exact Int.emod_nonneg _ (by decide)
        have m1 : mx < 2147483629 := by rw [← hmx]; exact Int.emod_lt_of_pos _ (by decide)
        refine ⟨_, rfl, _, _, rfl, rfl, .inr (by decide), _, rfl, a, _, 2, _, rfl, rfl, SqL.of g1, rfl, _, _, rfl, rfl, .inl (by decide), _, rfl, a, _, 2, _, rfl, rfl, SqL.of g1, rfl, _, _, rfl, rfl, .inr ?_, _, _, rfl, rfl, _, _, rfl, rfl, _, _, rfl, rfl, ?_, _, _, rfl, rfl, (by show (0 : Int) < 1000000007; decide), _, rfl, _, _, rfl, rfl, hm, ?_⟩
        · have e64 : (2 : Int) ^ 64 = 18446744073709551616 := by decide
          rw [e64]
          omega
        · show CPow _ 3
          refine ⟨by decide, by decide, ?_⟩
          have e64 : (2 : Nat) ^ 64 = 18446744073709551616 := by decide
          rw [e64]
          have q0 : 0 ≤ 40503 * ((n : Int) + 1) * ((n : Int) + 1) := Int.mul_nonneg (by omega) (by omega)
          have q1 : 40503 * ((n : Int) + 1) * ((n : Int) + 1) ≤ 40503 * 100001 * 100001 := Int.mul_le_mul (by omega) (by omega) (by omega) (by decide)
          omega
        · exact k _ _ (Int.emod_nonneg _ (by omega)) (Int.emod_lt_of_pos _ hm) ⟨ne, ns', x', z', g1, g2, gl, gx, gz0, gz1⟩ kp
end
theorem sm9000 {x : Int} {n : Nat} (h : Sm n x) (hn : n ≤ 9000) : Sm 9000 x := h.mono hn
theorem sm_small {x : Int} (h : x.natAbs < 8) : Sm 9000 x := sm9000 (n := 3) h (by decide)
def spStart (K : PySem.W.Frag) : Sp := fun vs H Q _ => ∃ (p : Addr) (ns : List Int), vs = [.ref p] ∧ SqL K H p (ns.map V.int) ∧ ns.length ≤ 63 ∧ ∀ (a l : Addr) (H' : Hp), StreamAt H' a l 0 → H a = none → H l = none → Same H H' → Q (.ref a) H'
section
variable {P : Program} {w : World} {K : PySem.W.Frag} {mg : Str → Option Value} {base : Heap} {C : Addr}
theorem scStart : FnScope ["_law_script"] ["_law_script"] (defScope sStart) := ⟨rfl, rfl, rfl, by decide +kernel, rfl, by decide +kernel, by decide +kernel⟩
theorem ok_start {f : Addr} {fd : FuncData} (F : Fun K "_law_start" "_law_start" sStart f fd) (T : Txt K mg) : FnOk P w K mg base CX0 1 f fd ["_law_script"] (spStart K) := by
  refine F.ok scStart (fun vs H Q E h => ?_) (fun cdv A outer s H vs Q E hr h => ?_)
  · obtain ⟨p, ns, rfl, _⟩ := h
    rfl
  · obtain ⟨p, ns, rfl, hS, hl, k⟩ := h
    refine ⟨_, pss_one (ps_ret (pe_lst (pa_cons (pe_callTy call_list_of (by rfl) T.list_ boot_list' (pa_cons (pv 0) pa_nil)) (pa_cons pe_int (pa_cons pe_int (pa_cons pe_int pa_nil)))))), ?_⟩
    refine ⟨_, rfl, p, _, rfl, .inl hS, fun l hl' => ⟨by show 4 ≤ sizeLine; decide, fun a ha => ?_⟩⟩
    have nal : a ≠ l := fun e => by rw [e, upd_same] at ha; cases ha
    have ha0 : H a = Option.none := by rw [upd_ne nal] at ha; exact ha
    exact k a l _ ⟨nal, ns, 0, 0, upd_same, by rw [upd_ne nal.symm, upd_same], hl, by decide, by decide, by decide⟩ ha0 hl' ((new_ hl').trans (new_ ha))
end
theorem StreamAt.ne {H : Hp} {a l p : Addr} {n : Nat} (S : StreamAt H a l n) (h : H p = none) : p ≠ a ∧ p ≠ l := by
  obtain ⟨ne, ns, x, z, h1, h2, _⟩ := S
  exact ⟨(ne_of_none h1 h).symm, (ne_of_none h2 h).symm⟩
theorem sm48 {z : Int} (h1 : 1 ≤ z) (h2 : z ≤ 48) : Sm 9000 z := by
  refine sm9000 (n := 6) ?_ (by decide)
  have e : (2 : Nat) ^ 6 = 64 := by decide
  show z.natAbs < 2 ^ 6
  rw [e]
  omega
theorem StreamAt.at_ {H : Hp} {a l : Addr} {n m : Nat} (S : StreamAt H a l n) (e : n = m) : StreamAt H a l m := e ▸ S
theorem StreamAt.lst {H : Hp} {a l p : Addr} {n : Nat} {xs ys : List V} (S : StreamAt H a l n) (hp : H p = some (.lst xs)) (pa : p ≠ a) (pl : p ≠ l) : StreamAt (upd H p (.lst ys)) a l n := by
  obtain ⟨ne, ns, x, z, h1, h2, h3⟩ := S
  exact ⟨ne, ns, x, z, by rw [upd_ne pa.symm]; exact h1, by rw [upd_ne pl.symm]; exact h2, h3⟩

end PA

set_option maxHeartbeats 4000000
namespace PA
open PySem L2 RZ
/-! ### a comprehension over zip -/
section
variable {K : PySem.W.Frag} {a b : Addr} {xs ys : List V} {g : TG} {tt : TT} {te : TE} {vs : List Nat} {σ : L2.St} {H1 : Hp} {D : Addr} {Qd : Hp → Prop}
theorem lc_zipL (hl : xs.length = ys.length) (Pv : Nat → Hp → Prop) (h0 : Pv 0 (upd H1 D (.lst []))) (hq : ∀ i H, Pv i H → SqL K H a xs ∧ SqL K H b ys)
    (hs : ∀ (i : Nat) (x y : V) (T : Addr) (H : Hp), xs[i]? = some x → ys[i]? = some y → Pv i H → H T = none → g (.ref T) (wipe σ vs) (upd H T (.tup [x, y])) fun σ2 H2 => wipe σ2 vs = wipe σ vs ∧ tt σ2 H2 fun c H3 =>
      if c = true then te σ2 H3 fun z H4 => ∃ acc, H4 D = some (.lst acc) ∧ acc.length < sizeLine ∧ Pv (i + 1) (upd H4 D (.lst (acc ++ [z]))) else Pv (i + 1) H3) (hd : ∀ H, Pv xs.length H → Qd H) :
    ∃ W : Nat → Nat → Hp → Prop, (∃ m, W 0 m (upd H1 D (.lst []))) ∧ ∀ i m H, W i m H →
      ((Itz K a b).stop i H ∧ Qd H) ∨ ((Itz K a b).go i H ∧ ∃ Nx : Hp → Prop, (∀ H', Nx H' → ∃ m', m' < m ∧ W (i + 1) m' H') ∧ ∀ x H', (Itz K a b).yld i H x H' → g x (wipe σ vs) H' fun σ2 H2 => wipe σ2 vs = wipe σ vs ∧ tt σ2 H2 fun c H3 =>
        if c = true then te σ2 H3 fun z H4 => ∃ acc, H4 D = some (.lst acc) ∧ acc.length < sizeLine ∧ Nx (upd H4 D (.lst (acc ++ [z]))) else Nx H3) := by
  refine ⟨fun i m H => m = xs.length - i ∧ i ≤ xs.length ∧ Pv i H, ⟨xs.length, rfl, Nat.zero_le _, h0⟩, ?_⟩
  rintro i m H ⟨rfl, hi, p⟩
  obtain ⟨qx, qy⟩ := hq i H p
  by_cases hlt : i < xs.length
  · have hx : xs[i]? = some xs[i] := List.getElem?_eq_getElem hlt
    have hlt2 : i < ys.length := by omega
    have hy : ys[i]? = some ys[i] := List.getElem?_eq_getElem hlt2
    refine .inr ⟨⟨xs, ys, _, _, qx, qy, hx, hy⟩, Pv (i + 1), fun H' p' => ⟨xs.length - (i + 1), by omega, rfl, hlt, p'⟩, fun v H' y => ?_⟩
    obtain ⟨T, x', y', rfl, hT, rfl, f1, f2⟩ := y
    exact hs i x' y' T H (f1 xs qx) (f2 ys qy) p hT
  · have e : i = xs.length := by omega
    subst e
    exact .inl ⟨⟨xs, ys, qx, qy, Or.inl (Nat.le_refl _)⟩, hd H p⟩
theorem lc_zipT (hl : xs.length = ys.length) (Pv : Nat → Hp → Prop) (h0 : Pv 0 (upd H1 D (.lst []))) (hq : ∀ i H, Pv i H → SqT K H a xs ∧ SqT K H b ys)
    (hs : ∀ (i : Nat) (x y : V) (T : Addr) (H : Hp), xs[i]? = some x → ys[i]? = some y → Pv i H → H T = none → g (.ref T) (wipe σ vs) (upd H T (.tup [x, y])) fun σ2 H2 => wipe σ2 vs = wipe σ vs ∧ tt σ2 H2 fun c H3 =>
      if c = true then te σ2 H3 fun z H4 => ∃ acc, H4 D = some (.lst acc) ∧ acc.length < sizeLine ∧ Pv (i + 1) (upd H4 D (.lst (acc ++ [z]))) else Pv (i + 1) H3) (hd : ∀ H, Pv xs.length H → Qd H) :
    ∃ W : Nat → Nat → Hp → Prop, (∃ m, W 0 m (upd H1 D (.lst []))) ∧ ∀ i m H, W i m H →
      ((ItzT K a b).stop i H ∧ Qd H) ∨ ((ItzT K a b).go i H ∧ ∃ Nx : Hp → Prop, (∀ H', Nx H' → ∃ m', m' < m ∧ W (i + 1) m' H') ∧ ∀ x H', (ItzT K a b).yld i H x H' → g x (wipe σ vs) H' fun σ2 H2 => wipe σ2 vs = wipe σ vs ∧ tt σ2 H2 fun c H3 =>
        if c = true then te σ2 H3 fun z H4 => ∃ acc, H4 D = some (.lst acc) ∧ acc.length < sizeLine ∧ Nx (upd H4 D (.lst (acc ++ [z]))) else Nx H3) := by
  refine ⟨fun i m H => m = xs.length - i ∧ i ≤ xs.length ∧ Pv i H, ⟨xs.length, rfl, Nat.zero_le _, h0⟩, ?_⟩
  rintro i m H ⟨rfl, hi, p⟩
  obtain ⟨qx, qy⟩ := hq i H p
  by_cases hlt : i < xs.length
  · have hx : xs[i]? = some xs[i] := List.getElem?_eq_getElem hlt
    have hlt2 : i < ys.length := by omega
    have hy : ys[i]? = some ys[i] := List.getElem?_eq_getElem hlt2
    refine .inr ⟨⟨xs, ys, _, _, qx, qy, hx, hy⟩, Pv (i + 1), fun H' p' => ⟨xs.length - (i + 1), by omega, rfl, hlt, p'⟩, fun v H' y => ?_⟩
    obtain ⟨T, x', y', rfl, hT, rfl, f1, f2⟩ := y
    exact hs i x' y' T H (f1 xs qx) (f2 ys qy) p hT
  · have e : i = xs.length := by omega
    subst e
    exact .inl ⟨⟨xs, ys, qx, qy, Or.inl (Nat.le_refl _)⟩, hd H p⟩
end
/-! ### two values that are the same, to the depth n: ints, bools, lists and tuples of such -/
inductive Two (K : PySem.W.Frag) (H : Hp) : Nat → V → V → Prop where
  | bl (n : Nat) (b : Bool) : Two K H n (.bl b) (.bl b)
  | int (n : Nat) (i : Int) : Two K H n (.int i) (.int i)
  | non (n : Nat) : Two K H n .non .non
  | str (n : Nat) (x : Str) : Two K H n (.str x) (.str x)
  | lst {n : Nat} {a b : Addr} {xs ys : List V} (ha : H a = some (.lst xs)) (hb : H b = some (.lst ys)) (hl : xs.length = ys.length) (hsz : xs.length ≤ sizeLine) (hi : ∀ (i : Nat) (x y : V), xs[i]? = some x → ys[i]? = some y → Two K H n x y) : Two K H (n + 1) (.ref a) (.ref b)
  | tup {n : Nat} {a b : Addr} {xs ys : List V} (ha : SqT K H a xs) (hb : SqT K H b ys) (hl : xs.length = ys.length) (hsz : xs.length ≤ sizeLine) (hi : ∀ (i : Nat) (x y : V), xs[i]? = some x → ys[i]? = some y → Two K H n x y) : Two K H (n + 1) (.ref a) (.ref b)
theorem Two.same {K : PySem.W.Frag} {H H' : Hp} {n : Nat} {x y : V} (t : Two K H n x y) (s : Same H H') : Two K H' n x y := by
  induction t with
  | bl n b => exact .bl n b
  | int n i => exact .int n i
  | non n => exact .non n
  | str n x => exact .str n x
  | lst ha hb hl hz _ ih => exact .lst (s _ _ ha) (s _ _ hb) hl hz ih
  | tup ha hb hl hz _ ih => exact .tup (SqT.up ha s) (SqT.up hb s) hl hz ih
theorem tyT {K : PySem.W.Frag} {H : Hp} {a : Addr} {xs : List V} (h : SqT K H a xs) : TyX K H (.ref a) (.type "tuple") := by
  rcases h with (h | ⟨ob, h⟩) | ⟨o, its, n, h1, h2, _⟩
  · exact .base (.tup h)
  · exact .fTuple h
  · exact .kTuple h1 h2
def spSame (K : PySem.W.Frag) (n : Nat) : Sp := fun vs H Q _ => ∃ x y, vs = [x, y] ∧ Two K H n x y ∧ ∀ H', Same H H' → Q (.bl true) H'
section
variable {P : Program} {w : World} {K : PySem.W.Frag} {mg : Str → Option Value} {base : Heap} {C : Addr}
theorem scSame : FnScope ["_law_found", "_law_due_here", "_law_one", "_law_other"] ["_law_found", "_law_due_here"] (defScope sSame) := ⟨rfl, rfl, rfl, by decide +kernel, rfl, by decide +kernel, by decide +kernel⟩
theorem kit2 {t : String} {b1 b2 r : Bool} (h1 : kitB t "list" = some b1) (h2 : kitB t "tuple" = some b2) (hr : (b1 || b2) = r) : PySem.W.kitAny K (.type t) [.type "list", .type "tuple"] = some r := by
  subst hr
  refine kitAny_cons (b := b1) (kit_ty h1) (fun e => ?_) (fun e => by rw [e]; rfl)
  subst e
  refine kitAny_cons (b := b2) (kit_ty h2) (fun e => ?_) (fun e => by rw [e]; rfl)
  subst e
  exact kitAny_nil
theorem kit3 {t : String} (h1 : kitB t "int" = some false) (h2 : kitB t "list" = some false) (h3 : kitB t "tuple" = some false) : PySem.W.kitAny K (.type t) [.type "int", .type "list", .type "tuple"] = some false := by
  refine kitAny_cons (b := false) (kit_ty h1) (fun _ => ?_) (fun e => by cases e)
  refine kitAny_cons (b := false) (kit_ty h2) (fun _ => ?_) (fun e => by cases e)
  refine kitAny_cons (b := false) (kit_ty h3) (fun _ => ?_) (fun e => by cases e)
  exact kitAny_nil
theorem ok_same {f : Addr} {fd : FuncData} (D : Df K mg "_law_same" sSame f fd ["_law_found", "_law_due_here"]) (T : Txt K mg) : ∀ n : Nat, FnOk P w K mg base CX0 (n + 1) f fd ["_law_found", "_law_due_here"] (spSame K n) := by
  have hlen : ∀ n, ∀ vs H Q E, spSame K n vs H Q E → vs.length = (["_law_found", "_law_due_here"] : List Str).length := fun n vs H Q E h => by
    obtain ⟨x, y, rfl, _⟩ := h
    rfl
  intro n
  induction n with
  | zero =>
    refine D.F.ok scSame (hlen 0) (fun cdv A outer s H vs Q E hr h => ?_)
    obtain ⟨x, y, rfl, t, k⟩ := h
    cases t with
    | int _ i =>
      refine ⟨_, pss_cons (ps_if (pt_val (pe_callB call_isiT (by rfl) T.isi boot_isi (pa_cons (pv 1) (pa_cons (pe_tup (pa_cons (pe_bltn (v := .ty "list") (by rfl) T.list_ boot_list' rfl) (pa_cons (pe_bltn (v := .ty "tuple") (by rfl) T.tup_ boot_tuple' rfl) pa_nil))) pa_nil)))) pss_never pss_nil)
      (pss_cons (ps_if (pt_val (pe_callB call_isi (by rfl) T.isi boot_isi (pa_cons (pv 1) (pa_cons (pe_bltn (v := .ty "int") (by rfl) T.int_ boot_int' rfl) pa_nil))))
        (pss_one (ps_ret (pe_and (pe_callB call_isi (by rfl) T.isi boot_isi (pa_cons (pv 0) (pa_cons (pe_bltn (v := .ty "int") (by rfl) T.int_ boot_int' rfl) pa_nil)))
          (pe_and (pe_cmpR op_eq (pe_callB call_isi (by rfl) T.isi boot_isi (pa_cons (pv 0) (pa_cons (pe_bltn (v := .ty "bool") (by rfl) T.bool_ boot_bool' rfl) pa_nil))) (pe_callB call_isi (by rfl) T.isi boot_isi (pa_cons (pv 1) (pa_cons (pe_bltn (v := .ty "bool") (by rfl) T.bool_ boot_bool' rfl) pa_nil))) (nomark _))
            (pe_one (pe_cmpR op_eq (pv 0) (pv 1) (nomark _))))))) pss_nil) pss_never), ?_⟩
      refine ⟨_, rfl, by show 2 ≤ sizeLine; decide, fun tp htp => ⟨_, tp, _, _, [.type "list", .type "tuple"], _, rfl, upd_same, .cons (.ty _) (.cons (.ty _) .nil), .base (.int i), kit2 (b1 := false) (b2 := false) (by decide +kernel) (by decide +kernel) rfl, _, rfl, iteF ?_⟩⟩
      refine ⟨_, rfl, _, _, _, _, _, rfl, .ty _, .base (.int i), kit_ty (b := "int") (r := true) (by decide +kernel), _, rfl, iteT ?_⟩
      refine ⟨_, rfl, _, _, _, _, _, rfl, .ty _, .base (.int i), kit_ty (b := "int") (r := true) (by decide +kernel), _, rfl, iteT ?_⟩
      refine ⟨_, rfl, _, _, _, _, _, rfl, .ty _, .base (.int i), kit_ty (b := "bool") (r := false) (by decide +kernel), _, rfl, _, _, _, _, _, rfl, .ty _, .base (.int i), kit_ty (b := "bool") (r := false) (by decide +kernel), rfl, _, rfl, ifD_yes rfl ?_⟩
      refine ⟨_, rfl, _, rfl, rfl, ?_⟩
      show Q (V.bl (decide (V.int i = V.int i))) _
      rw [decide_eq_true rfl]
      exact k _ (new_ htp)
    | bl _ b =>
      refine ⟨_, pss_cons (ps_if (pt_val (pe_callB call_isiT (by rfl) T.isi boot_isi (pa_cons (pv 1) (pa_cons (pe_tup (pa_cons (pe_bltn (v := .ty "list") (by rfl) T.list_ boot_list' rfl) (pa_cons (pe_bltn (v := .ty "tuple") (by rfl) T.tup_ boot_tuple' rfl) pa_nil))) pa_nil)))) pss_never pss_nil)
      (pss_cons (ps_if (pt_val (pe_callB call_isi (by rfl) T.isi boot_isi (pa_cons (pv 1) (pa_cons (pe_bltn (v := .ty "int") (by rfl) T.int_ boot_int' rfl) pa_nil))))
        (pss_one (ps_ret (pe_and (pe_callB call_isi (by rfl) T.isi boot_isi (pa_cons (pv 0) (pa_cons (pe_bltn (v := .ty "int") (by rfl) T.int_ boot_int' rfl) pa_nil)))
          (pe_and (pe_cmpR op_eq (pe_callB call_isi (by rfl) T.isi boot_isi (pa_cons (pv 0) (pa_cons (pe_bltn (v := .ty "bool") (by rfl) T.bool_ boot_bool' rfl) pa_nil))) (pe_callB call_isi (by rfl) T.isi boot_isi (pa_cons (pv 1) (pa_cons (pe_bltn (v := .ty "bool") (by rfl) T.bool_ boot_bool' rfl) pa_nil))) (nomark _))
            (pe_one (pe_cmpR op_eq (pv 0) (pv 1) (nomark _))))))) pss_nil) pss_never), ?_⟩
      refine ⟨_, rfl, by show 2 ≤ sizeLine; decide, fun tp htp => ⟨_, tp, _, _, [.type "list", .type "tuple"], _, rfl, upd_same, .cons (.ty _) (.cons (.ty _) .nil), .base (.bl b), kit2 (b1 := false) (b2 := false) (by decide +kernel) (by decide +kernel) rfl, _, rfl, iteF ?_⟩⟩
      refine ⟨_, rfl, _, _, _, _, _, rfl, .ty _, .base (.bl b), kit_ty (b := "int") (r := true) (by decide +kernel), _, rfl, iteT ?_⟩
      refine ⟨_, rfl, _, _, _, _, _, rfl, .ty _, .base (.bl b), kit_ty (b := "int") (r := true) (by decide +kernel), _, rfl, iteT ?_⟩
      refine ⟨_, rfl, _, _, _, _, _, rfl, .ty _, .base (.bl b), kit_ty (b := "bool") (r := true) (by decide +kernel), _, rfl, _, _, _, _, _, rfl, .ty _, .base (.bl b), kit_ty (b := "bool") (r := true) (by decide +kernel), rfl, _, rfl, ifD_yes rfl ?_⟩
      refine ⟨_, rfl, _, rfl, rfl, ?_⟩
      show Q (V.bl (decide (V.bl b = V.bl b))) _
      rw [decide_eq_true rfl]
      exact k _ (new_ htp)
    | non _ =>
      refine ⟨_, pss_cons (ps_if (pt_val (pe_callB call_isiT (by rfl) T.isi boot_isi (pa_cons (pv 1) (pa_cons (pe_tup (pa_cons (pe_bltn (v := .ty "list") (by rfl) T.list_ boot_list' rfl) (pa_cons (pe_bltn (v := .ty "tuple") (by rfl) T.tup_ boot_tuple' rfl) pa_nil))) pa_nil)))) pss_never pss_nil)
      (pss_cons (ps_if (pt_val (pe_callB call_isi (by rfl) T.isi boot_isi (pa_cons (pv 1) (pa_cons (pe_bltn (v := .ty "int") (by rfl) T.int_ boot_int' rfl) pa_nil)))) pss_never pss_nil)
      (pss_one (ps_ret (pe_and (pe_cmpR op_eq (pv 0) (pv 1) (nomark _)) (pe_one (pe_cmpR op_is_bl (pe_callB call_isiT (by rfl) T.isi boot_isi (pa_cons (pv 0) (pa_cons (pe_tup (pa_cons (pe_bltn (v := .ty "int") (by rfl) T.int_ boot_int' rfl) (pa_cons (pe_bltn (v := .ty "list") (by rfl) T.list_ boot_list' rfl) (pa_cons (pe_bltn (v := .ty "tuple") (by rfl) T.tup_ boot_tuple' rfl) pa_nil)))) pa_nil))) pe_bl (nomark _))))))), ?_⟩
      refine ⟨_, rfl, by show 2 ≤ sizeLine; decide, fun tp htp => ⟨_, tp, _, _, [.type "list", .type "tuple"], _, rfl, upd_same, .cons (.ty _) (.cons (.ty _) .nil), .base .non, kit2 (b1 := false) (b2 := false) (by decide +kernel) (by decide +kernel) rfl, _, rfl, iteF ?_⟩⟩
      refine ⟨_, rfl, _, _, _, _, _, rfl, .ty _, .base .non, kit_ty (b := "int") (r := false) (by decide +kernel), _, rfl, iteF ?_⟩
      refine ⟨_, rfl, _, rfl, rfl, _, rfl, ifD_yes rfl ?_⟩
      refine ⟨_, rfl, by show 3 ≤ sizeLine; decide, fun tq htq => ⟨_, tq, _, _, [.type "int", .type "list", .type "tuple"], _, rfl, upd_same, .cons (.ty _) (.cons (.ty _) (.cons (.ty _) .nil)), .base .non, kit3 (by decide +kernel) (by decide +kernel) (by decide +kernel), _, _, rfl, rfl, ?_⟩⟩
      exact k _ ((new_ htp).trans (new_ htq))
    | str _ x =>
      refine ⟨_, pss_cons (ps_if (pt_val (pe_callB call_isiT (by rfl) T.isi boot_isi (pa_cons (pv 1) (pa_cons (pe_tup (pa_cons (pe_bltn (v := .ty "list") (by rfl) T.list_ boot_list' rfl) (pa_cons (pe_bltn (v := .ty "tuple") (by rfl) T.tup_ boot_tuple' rfl) pa_nil))) pa_nil)))) pss_never pss_nil)
      (pss_cons (ps_if (pt_val (pe_callB call_isi (by rfl) T.isi boot_isi (pa_cons (pv 1) (pa_cons (pe_bltn (v := .ty "int") (by rfl) T.int_ boot_int' rfl) pa_nil)))) pss_never pss_nil)
      (pss_one (ps_ret (pe_and (pe_cmpR op_eq (pv 0) (pv 1) (nomark _)) (pe_one (pe_cmpR op_is_bl (pe_callB call_isiT (by rfl) T.isi boot_isi (pa_cons (pv 0) (pa_cons (pe_tup (pa_cons (pe_bltn (v := .ty "int") (by rfl) T.int_ boot_int' rfl) (pa_cons (pe_bltn (v := .ty "list") (by rfl) T.list_ boot_list' rfl) (pa_cons (pe_bltn (v := .ty "tuple") (by rfl) T.tup_ boot_tuple' rfl) pa_nil)))) pa_nil))) pe_bl (nomark _))))))), ?_⟩
      refine ⟨_, rfl, by show 2 ≤ sizeLine; decide, fun tp htp => ⟨_, tp, _, _, [.type "list", .type "tuple"], _, rfl, upd_same, .cons (.ty _) (.cons (.ty _) .nil), .base (.str x), kit2 (b1 := false) (b2 := false) (by decide +kernel) (by decide +kernel) rfl, _, rfl, iteF ?_⟩⟩
      refine ⟨_, rfl, _, _, _, _, _, rfl, .ty _, .base (.str x), kit_ty (b := "int") (r := false) (by decide +kernel), _, rfl, iteF ?_⟩
      refine ⟨_, rfl, _, rfl, rfl, _, rfl, ifD_yes rfl ?_⟩
      refine ⟨_, rfl, by show 3 ≤ sizeLine; decide, fun tq htq => ⟨_, tq, _, _, [.type "int", .type "list", .type "tuple"], _, rfl, upd_same, .cons (.ty _) (.cons (.ty _) (.cons (.ty _) .nil)), .base (.str x), kit3 (by decide +kernel) (by decide +kernel) (by decide +kernel), _, _, rfl, rfl, ?_⟩⟩
      exact k _ ((new_ htp).trans (new_ htq))
  | succ n ih =>
    refine D.F.ok scSame (hlen (n + 1)) (fun cdv A outer s H vs Q E hr h => ?_)
    obtain ⟨x, y, rfl, t, k⟩ := h
    cases t with
    | int _ i =>
      refine ⟨_, pss_cons (ps_if (pt_val (pe_callB call_isiT (by rfl) T.isi boot_isi (pa_cons (pv 1) (pa_cons (pe_tup (pa_cons (pe_bltn (v := .ty "list") (by rfl) T.list_ boot_list' rfl) (pa_cons (pe_bltn (v := .ty "tuple") (by rfl) T.tup_ boot_tuple' rfl) pa_nil))) pa_nil)))) pss_never pss_nil)
      (pss_cons (ps_if (pt_val (pe_callB call_isi (by rfl) T.isi boot_isi (pa_cons (pv 1) (pa_cons (pe_bltn (v := .ty "int") (by rfl) T.int_ boot_int' rfl) pa_nil))))
        (pss_one (ps_ret (pe_and (pe_callB call_isi (by rfl) T.isi boot_isi (pa_cons (pv 0) (pa_cons (pe_bltn (v := .ty "int") (by rfl) T.int_ boot_int' rfl) pa_nil)))
          (pe_and (pe_cmpR op_eq (pe_callB call_isi (by rfl) T.isi boot_isi (pa_cons (pv 0) (pa_cons (pe_bltn (v := .ty "bool") (by rfl) T.bool_ boot_bool' rfl) pa_nil))) (pe_callB call_isi (by rfl) T.isi boot_isi (pa_cons (pv 1) (pa_cons (pe_bltn (v := .ty "bool") (by rfl) T.bool_ boot_bool' rfl) pa_nil))) (nomark _))
            (pe_one (pe_cmpR op_eq (pv 0) (pv 1) (nomark _))))))) pss_nil) pss_never), ?_⟩
      refine ⟨_, rfl, by show 2 ≤ sizeLine; decide, fun tp htp => ⟨_, tp, _, _, [.type "list", .type "tuple"], _, rfl, upd_same, .cons (.ty _) (.cons (.ty _) .nil), .base (.int i), kit2 (b1 := false) (b2 := false) (by decide +kernel) (by decide +kernel) rfl, _, rfl, iteF ?_⟩⟩
      refine ⟨_, rfl, _, _, _, _, _, rfl, .ty _, .base (.int i), kit_ty (b := "int") (r := true) (by decide +kernel), _, rfl, iteT ?_⟩
      refine ⟨_, rfl, _, _, _, _, _, rfl, .ty _, .base (.int i), kit_ty (b := "int") (r := true) (by decide +kernel), _, rfl, iteT ?_⟩
      refine ⟨_, rfl, _, _, _, _, _, rfl, .ty _, .base (.int i), kit_ty (b := "bool") (r := false) (by decide +kernel), _, rfl, _, _, _, _, _, rfl, .ty _, .base (.int i), kit_ty (b := "bool") (r := false) (by decide +kernel), rfl, _, rfl, ifD_yes rfl ?_⟩
      refine ⟨_, rfl, _, rfl, rfl, ?_⟩
      show Q (V.bl (decide (V.int i = V.int i))) _
      rw [decide_eq_true rfl]
      exact k _ (new_ htp)
    | bl _ b =>
      refine ⟨_, pss_cons (ps_if (pt_val (pe_callB call_isiT (by rfl) T.isi boot_isi (pa_cons (pv 1) (pa_cons (pe_tup (pa_cons (pe_bltn (v := .ty "list") (by rfl) T.list_ boot_list' rfl) (pa_cons (pe_bltn (v := .ty "tuple") (by rfl) T.tup_ boot_tuple' rfl) pa_nil))) pa_nil)))) pss_never pss_nil)
      (pss_cons (ps_if (pt_val (pe_callB call_isi (by rfl) T.isi boot_isi (pa_cons (pv 1) (pa_cons (pe_bltn (v := .ty "int") (by rfl) T.int_ boot_int' rfl) pa_nil))))
        (pss_one (ps_ret (pe_and (pe_callB call_isi (by rfl) T.isi boot_isi (pa_cons (pv 0) (pa_cons (pe_bltn (v := .ty "int") (by rfl) T.int_ boot_int' rfl) pa_nil)))
          (pe_and (pe_cmpR op_eq (pe_callB call_isi (by rfl) T.isi boot_isi (pa_cons (pv 0) (pa_cons (pe_bltn (v := .ty "bool") (by rfl) T.bool_ boot_bool' rfl) pa_nil))) (pe_callB call_isi (by rfl) T.isi boot_isi (pa_cons (pv 1) (pa_cons (pe_bltn (v := .ty "bool") (by rfl) T.bool_ boot_bool' rfl) pa_nil))) (nomark _))
            (pe_one (pe_cmpR op_eq (pv 0) (pv 1) (nomark _))))))) pss_nil) pss_never), ?_⟩
      refine ⟨_, rfl, by show 2 ≤ sizeLine; decide, fun tp htp => ⟨_, tp, _, _, [.type "list", .type "tuple"], _, rfl, upd_same, .cons (.ty _) (.cons (.ty _) .nil), .base (.bl b), kit2 (b1 := false) (b2 := false) (by decide +kernel) (by decide +kernel) rfl, _, rfl, iteF ?_⟩⟩
      refine ⟨_, rfl, _, _, _, _, _, rfl, .ty _, .base (.bl b), kit_ty (b := "int") (r := true) (by decide +kernel), _, rfl, iteT ?_⟩
      refine ⟨_, rfl, _, _, _, _, _, rfl, .ty _, .base (.bl b), kit_ty (b := "int") (r := true) (by decide +kernel), _, rfl, iteT ?_⟩
      refine ⟨_, rfl, _, _, _, _, _, rfl, .ty _, .base (.bl b), kit_ty (b := "bool") (r := true) (by decide +kernel), _, rfl, _, _, _, _, _, rfl, .ty _, .base (.bl b), kit_ty (b := "bool") (r := true) (by decide +kernel), rfl, _, rfl, ifD_yes rfl ?_⟩
      refine ⟨_, rfl, _, rfl, rfl, ?_⟩
      show Q (V.bl (decide (V.bl b = V.bl b))) _
      rw [decide_eq_true rfl]
      exact k _ (new_ htp)
    | non _ =>
      refine ⟨_, pss_cons (ps_if (pt_val (pe_callB call_isiT (by rfl) T.isi boot_isi (pa_cons (pv 1) (pa_cons (pe_tup (pa_cons (pe_bltn (v := .ty "list") (by rfl) T.list_ boot_list' rfl) (pa_cons (pe_bltn (v := .ty "tuple") (by rfl) T.tup_ boot_tuple' rfl) pa_nil))) pa_nil)))) pss_never pss_nil)
      (pss_cons (ps_if (pt_val (pe_callB call_isi (by rfl) T.isi boot_isi (pa_cons (pv 1) (pa_cons (pe_bltn (v := .ty "int") (by rfl) T.int_ boot_int' rfl) pa_nil)))) pss_never pss_nil)
      (pss_one (ps_ret (pe_and (pe_cmpR op_eq (pv 0) (pv 1) (nomark _)) (pe_one (pe_cmpR op_is_bl (pe_callB call_isiT (by rfl) T.isi boot_isi (pa_cons (pv 0) (pa_cons (pe_tup (pa_cons (pe_bltn (v := .ty "int") (by rfl) T.int_ boot_int' rfl) (pa_cons (pe_bltn (v := .ty "list") (by rfl) T.list_ boot_list' rfl) (pa_cons (pe_bltn (v := .ty "tuple") (by rfl) T.tup_ boot_tuple' rfl) pa_nil)))) pa_nil))) pe_bl (nomark _))))))), ?_⟩
      refine ⟨_, rfl, by show 2 ≤ sizeLine; decide, fun tp htp => ⟨_, tp, _, _, [.type "list", .type "tuple"], _, rfl, upd_same, .cons (.ty _) (.cons (.ty _) .nil), .base .non, kit2 (b1 := false) (b2 := false) (by decide +kernel) (by decide +kernel) rfl, _, rfl, iteF ?_⟩⟩
      refine ⟨_, rfl, _, _, _, _, _, rfl, .ty _, .base .non, kit_ty (b := "int") (r := false) (by decide +kernel), _, rfl, iteF ?_⟩
      refine ⟨_, rfl, _, rfl, rfl, _, rfl, ifD_yes rfl ?_⟩
      refine ⟨_, rfl, by show 3 ≤ sizeLine; decide, fun tq htq => ⟨_, tq, _, _, [.type "int", .type "list", .type "tuple"], _, rfl, upd_same, .cons (.ty _) (.cons (.ty _) (.cons (.ty _) .nil)), .base .non, kit3 (by decide +kernel) (by decide +kernel) (by decide +kernel), _, _, rfl, rfl, ?_⟩⟩
      exact k _ ((new_ htp).trans (new_ htq))
    | str _ x =>
      refine ⟨_, pss_cons (ps_if (pt_val (pe_callB call_isiT (by rfl) T.isi boot_isi (pa_cons (pv 1) (pa_cons (pe_tup (pa_cons (pe_bltn (v := .ty "list") (by rfl) T.list_ boot_list' rfl) (pa_cons (pe_bltn (v := .ty "tuple") (by rfl) T.tup_ boot_tuple' rfl) pa_nil))) pa_nil)))) pss_never pss_nil)
      (pss_cons (ps_if (pt_val (pe_callB call_isi (by rfl) T.isi boot_isi (pa_cons (pv 1) (pa_cons (pe_bltn (v := .ty "int") (by rfl) T.int_ boot_int' rfl) pa_nil)))) pss_never pss_nil)
      (pss_one (ps_ret (pe_and (pe_cmpR op_eq (pv 0) (pv 1) (nomark _)) (pe_one (pe_cmpR op_is_bl (pe_callB call_isiT (by rfl) T.isi boot_isi (pa_cons (pv 0) (pa_cons (pe_tup (pa_cons (pe_bltn (v := .ty "int") (by rfl) T.int_ boot_int' rfl) (pa_cons (pe_bltn (v := .ty "list") (by rfl) T.list_ boot_list' rfl) (pa_cons (pe_bltn (v := .ty "tuple") (by rfl) T.tup_ boot_tuple' rfl) pa_nil)))) pa_nil))) pe_bl (nomark _))))))), ?_⟩
      refine ⟨_, rfl, by show 2 ≤ sizeLine; decide, fun tp htp => ⟨_, tp, _, _, [.type "list", .type "tuple"], _, rfl, upd_same, .cons (.ty _) (.cons (.ty _) .nil), .base (.str x), kit2 (b1 := false) (b2 := false) (by decide +kernel) (by decide +kernel) rfl, _, rfl, iteF ?_⟩⟩
      refine ⟨_, rfl, _, _, _, _, _, rfl, .ty _, .base (.str x), kit_ty (b := "int") (r := false) (by decide +kernel), _, rfl, iteF ?_⟩
      refine ⟨_, rfl, _, rfl, rfl, _, rfl, ifD_yes rfl ?_⟩
      refine ⟨_, rfl, by show 3 ≤ sizeLine; decide, fun tq htq => ⟨_, tq, _, _, [.type "int", .type "list", .type "tuple"], _, rfl, upd_same, .cons (.ty _) (.cons (.ty _) (.cons (.ty _) .nil)), .base (.str x), kit3 (by decide +kernel) (by decide +kernel) (by decide +kernel), _, _, rfl, rfl, ?_⟩⟩
      exact k _ ((new_ htp).trans (new_ htq))
    | @lst _ a b xs ys ha hb hl hsz hi =>
      refine ⟨_, pss_cons (ps_if (pt_val (pe_callB call_isiT (by rfl) T.isi boot_isi (pa_cons (pv 1) (pa_cons (pe_tup (pa_cons (pe_bltn (v := .ty "list") (by rfl) T.list_ boot_list' rfl) (pa_cons (pe_bltn (v := .ty "tuple") (by rfl) T.tup_ boot_tuple' rfl) pa_nil))) pa_nil))))
      (pss_cons (ps_if (PW.pt (pw_or (pt_cmpR op_ne (pe_callB call_isi (by rfl) T.isi boot_isi (pa_cons (pv 0) (pa_cons (pe_bltn (v := .ty "list") (by rfl) T.list_ boot_list' rfl) pa_nil))) (pe_callB call_isi (by rfl) T.isi boot_isi (pa_cons (pv 1) (pa_cons (pe_bltn (v := .ty "list") (by rfl) T.list_ boot_list' rfl) pa_nil))) (nomark _)) (pw_or1 (pt_cmpR op_ne (pe_callB call_isi (by rfl) T.isi boot_isi (pa_cons (pv 0) (pa_cons (pe_bltn (v := .ty "tuple") (by rfl) T.tup_ boot_tuple' rfl) pa_nil))) (pe_callB call_isi (by rfl) T.isi boot_isi (pa_cons (pv 1) (pa_cons (pe_bltn (v := .ty "tuple") (by rfl) T.tup_ boot_tuple' rfl) pa_nil))) (nomark _))))) pss_never pss_nil)
        (pss_one (ps_ret (pe_and (pe_cmpR op_eq (pe_callB call_len_seq (by rfl) T.len_ PySem.boot_len (pa_cons (pv 0) pa_nil)) (pe_callB call_len_seq (by rfl) T.len_ PySem.boot_len (pa_cons (pv 1) pa_nil)) (nomark _))
          (pe_one (pe_callB (cr_all rfl) (by rfl) T.all_ boot_all' (pa_cons (pe_lc (own := [("_law_one", 2), ("_law_other", 3)]) (g := gTup K 2 (gCons (gName 2) (gCons (gName 3) gNil))) (tt := tYes) (by rfl) scSame.nd (pi_zipA (by rfl) T.zip_ (pa_cons (pv 0) (pa_cons (pv 1) pa_nil))) (blkOk_by (N := ["_law_found", "_law_due_here", "_law_one", "_law_other"]) (sc := defScope sSame) (by decide +kernel))
            (fun _ _ _ _ _ => by exact pg_tup rfl (pgs_cons (pg_name (i := 2) scSame.nd rfl (Or.inl rfl)) (pgs_cons (pg_name (i := 3) scSame.nd rfl (Or.inl rfl)) pgs_nil))) (fun _ _ _ _ _ => pts_nil)
            (fun _ _ _ _ _ => pe_call ih hr rfl D.M D.F.kp D.B .nil pass0 (pa_cons (pv 2) (pa_cons (pv 3) pa_nil)))) pa_nil))))))) pss_nil) pss_never, ?_⟩
      refine ⟨_, rfl, by show 2 ≤ sizeLine; decide, fun tp htp => ?_⟩
      have s1 : Same H (upd H tp (.tup [.ty "list", .ty "tuple"])) := new_ htp
      have hA := s1 _ _ ha
      have hB := s1 _ _ hb
      refine ⟨_, tp, _, _, [.type "list", .type "tuple"], _, rfl, upd_same, .cons (.ty _) (.cons (.ty _) .nil), .base (.lst hB), kit2 (b1 := true) (b2 := false) (by decide +kernel) (by decide +kernel) rfl, _, rfl, iteT ?_⟩
      refine ⟨_, rfl, _, _, _, _, _, rfl, .ty _, .base (.lst hA), kit_ty (b := "list") (r := true) (by decide +kernel), _, rfl, _, _, _, _, _, rfl, .ty _, .base (.lst hB), kit_ty (b := "list") (r := true) (by decide +kernel), rfl, _, rfl, iteNS rfl ?_⟩
      refine ⟨_, rfl, _, _, _, _, _, rfl, .ty _, .base (.lst hA), kit_ty (b := "tuple") (r := false) (by decide +kernel), _, rfl, _, _, _, _, _, rfl, .ty _, .base (.lst hB), kit_ty (b := "tuple") (r := false) (by decide +kernel), rfl, _, rfl, iteNS rfl ?_⟩
      refine ⟨_, rfl, _, _, rfl, .inl (SqL.of hA), _, rfl, _, _, rfl, .inl (SqL.of hB), rfl, _, rfl, ifD_yes (by rw [hl]) ?_⟩
      refine ⟨_, rfl, _, rfl, _, _, xs, ys, rfl, .inl ⟨SqL.of hA, SqL.of hB, fun Dd hD => ?_⟩⟩
      refine lc_zipL hl (fun i H' => Same (upd H tp (.tup [.ty "list", .ty "tuple"])) H' ∧ H' Dd = some (.lst ((List.replicate i true).map V.bl))) ⟨new_ hD, upd_same⟩ (fun i H' q => ⟨SqL.of (q.1 _ _ hA), SqL.of (q.1 _ _ hB)⟩) ?_ ?_
      · rintro i x y tt H' hx hy ⟨sm, hd⟩ ht
        refine ⟨tt, _, rfl, SqT.of upd_same, rfl, _, _, rfl, _, _, rfl, rfl, rfl, ?_⟩
        dsimp only [tYes]
        rw [if_pos rfl]
        have s2 : Same H' (upd H' tt (.tup [x, y])) := new_ ht
        refine ⟨_, rfl, _, rfl, x, y, rfl, ((hi i x y hx hy).same s1).same (sm.trans s2), fun H2 s3 => ⟨_, s3 _ _ (s2 _ _ hd), ?_, ?_, ?_⟩⟩
        · rw [List.length_map, List.length_replicate]
          exact Nat.lt_of_lt_of_le (List.getElem?_eq_some_iff.mp hx).1 hsz
        · intro c o e
          rw [upd_ne (ne_of_none e hD)]
          exact s3 _ _ (s2 _ _ (sm _ _ e))
        · rw [upd_same, List.replicate_succ', List.map_append]
          rfl
      · rintro H' ⟨sm, hd⟩
        refine ⟨Dd, _, rfl, SqL.of hd, ?_⟩
        have ea : (List.replicate xs.length true).all id = true := by
          rw [List.all_eq_true]
          intro x hx
          rw [(List.mem_replicate.mp hx).2]
          rfl
        rw [ea]
        exact k _ (s1.trans sm)
    | @tup _ a b xs ys ha hb hl hsz hi =>
      refine ⟨_, pss_cons (ps_if (pt_val (pe_callB call_isiT (by rfl) T.isi boot_isi (pa_cons (pv 1) (pa_cons (pe_tup (pa_cons (pe_bltn (v := .ty "list") (by rfl) T.list_ boot_list' rfl) (pa_cons (pe_bltn (v := .ty "tuple") (by rfl) T.tup_ boot_tuple' rfl) pa_nil))) pa_nil))))
      (pss_cons (ps_if (PW.pt (pw_or (pt_cmpR op_ne (pe_callB call_isi (by rfl) T.isi boot_isi (pa_cons (pv 0) (pa_cons (pe_bltn (v := .ty "list") (by rfl) T.list_ boot_list' rfl) pa_nil))) (pe_callB call_isi (by rfl) T.isi boot_isi (pa_cons (pv 1) (pa_cons (pe_bltn (v := .ty "list") (by rfl) T.list_ boot_list' rfl) pa_nil))) (nomark _)) (pw_or1 (pt_cmpR op_ne (pe_callB call_isi (by rfl) T.isi boot_isi (pa_cons (pv 0) (pa_cons (pe_bltn (v := .ty "tuple") (by rfl) T.tup_ boot_tuple' rfl) pa_nil))) (pe_callB call_isi (by rfl) T.isi boot_isi (pa_cons (pv 1) (pa_cons (pe_bltn (v := .ty "tuple") (by rfl) T.tup_ boot_tuple' rfl) pa_nil))) (nomark _))))) pss_never pss_nil)
        (pss_one (ps_ret (pe_and (pe_cmpR op_eq (pe_callB call_len_seq (by rfl) T.len_ PySem.boot_len (pa_cons (pv 0) pa_nil)) (pe_callB call_len_seq (by rfl) T.len_ PySem.boot_len (pa_cons (pv 1) pa_nil)) (nomark _))
          (pe_one (pe_callB (cr_all rfl) (by rfl) T.all_ boot_all' (pa_cons (pe_lc (own := [("_law_one", 2), ("_law_other", 3)]) (g := gTup K 2 (gCons (gName 2) (gCons (gName 3) gNil))) (tt := tYes) (by rfl) scSame.nd (pi_zipA (by rfl) T.zip_ (pa_cons (pv 0) (pa_cons (pv 1) pa_nil))) (blkOk_by (N := ["_law_found", "_law_due_here", "_law_one", "_law_other"]) (sc := defScope sSame) (by decide +kernel))
            (fun _ _ _ _ _ => by exact pg_tup rfl (pgs_cons (pg_name (i := 2) scSame.nd rfl (Or.inl rfl)) (pgs_cons (pg_name (i := 3) scSame.nd rfl (Or.inl rfl)) pgs_nil))) (fun _ _ _ _ _ => pts_nil)
            (fun _ _ _ _ _ => pe_call ih hr rfl D.M D.F.kp D.B .nil pass0 (pa_cons (pv 2) (pa_cons (pv 3) pa_nil)))) pa_nil))))))) pss_nil) pss_never, ?_⟩
      refine ⟨_, rfl, by show 2 ≤ sizeLine; decide, fun tp htp => ?_⟩
      have s1 : Same H (upd H tp (.tup [.ty "list", .ty "tuple"])) := new_ htp
      have hA := SqT.up ha s1
      have hB := SqT.up hb s1
      refine ⟨_, tp, _, _, [.type "list", .type "tuple"], _, rfl, upd_same, .cons (.ty _) (.cons (.ty _) .nil), tyT hB, kit2 (b1 := false) (b2 := true) (by decide +kernel) (by decide +kernel) rfl, _, rfl, iteT ?_⟩
      refine ⟨_, rfl, _, _, _, _, _, rfl, .ty _, tyT hA, kit_ty (b := "list") (r := false) (by decide +kernel), _, rfl, _, _, _, _, _, rfl, .ty _, tyT hB, kit_ty (b := "list") (r := false) (by decide +kernel), rfl, _, rfl, iteNS rfl ?_⟩
      refine ⟨_, rfl, _, _, _, _, _, rfl, .ty _, tyT hA, kit_ty (b := "tuple") (r := true) (by decide +kernel), _, rfl, _, _, _, _, _, rfl, .ty _, tyT hB, kit_ty (b := "tuple") (r := true) (by decide +kernel), rfl, _, rfl, iteNS rfl ?_⟩
      refine ⟨_, rfl, _, _, rfl, .inr (hA), _, rfl, _, _, rfl, .inr (hB), rfl, _, rfl, ifD_yes (by rw [hl]) ?_⟩
      refine ⟨_, rfl, _, rfl, _, _, xs, ys, rfl, .inr ⟨hA, hB, fun Dd hD => ?_⟩⟩
      refine lc_zipT hl (fun i H' => Same (upd H tp (.tup [.ty "list", .ty "tuple"])) H' ∧ H' Dd = some (.lst ((List.replicate i true).map V.bl))) ⟨new_ hD, upd_same⟩ (fun i H' q => ⟨SqT.up hA q.1, SqT.up hB q.1⟩) ?_ ?_
      · rintro i x y tt H' hx hy ⟨sm, hd⟩ ht
        refine ⟨tt, _, rfl, SqT.of upd_same, rfl, _, _, rfl, _, _, rfl, rfl, rfl, ?_⟩
        dsimp only [tYes]
        rw [if_pos rfl]
        have s2 : Same H' (upd H' tt (.tup [x, y])) := new_ ht
        refine ⟨_, rfl, _, rfl, x, y, rfl, ((hi i x y hx hy).same s1).same (sm.trans s2), fun H2 s3 => ⟨_, s3 _ _ (s2 _ _ hd), ?_, ?_, ?_⟩⟩
        · rw [List.length_map, List.length_replicate]
          exact Nat.lt_of_lt_of_le (List.getElem?_eq_some_iff.mp hx).1 hsz
        · intro c o e
          rw [upd_ne (ne_of_none e hD)]
          exact s3 _ _ (s2 _ _ (sm _ _ e))
        · rw [upd_same, List.replicate_succ', List.map_append]
          rfl
      · rintro H' ⟨sm, hd⟩
        refine ⟨Dd, _, rfl, SqL.of hd, ?_⟩
        have ea : (List.replicate xs.length true).all id = true := by
          rw [List.all_eq_true]
          intro x hx
          rw [(List.mem_replicate.mp hx).2]
          rfl
        rw [ea]
        exact k _ (s1.trans sm)
end
end PA

set_option maxHeartbeats 4000000
namespace PA
open PySem L2 RZ
open C8 (pss_cut tCut)
theorem Keep.new {a l : Addr} {H H' : Hp} {p : Addr} {o : HO} (k : Keep a l H H') (hp : H' p = none) : Keep a l H (upd H' p o) := k.trans (Keep.of (new_ hp))
theorem Keep.none {a l : Addr} {H H' : Hp} {p : Addr} (k : Keep a l H H') (pa : p ≠ a) (pl : p ≠ l) (h : H' p = Option.none) : H p = Option.none := by
  cases e : H p with
  | none => rfl
  | some o => rw [k p o pa pl e] at h; cases h
theorem TupOf.kp {α : Type} {f : α → List V} {H H' : Hp} {a l c : Addr} {n : Nat} {r : α} (q : TupOf f H c r) (S : StreamAt H a l n) (k : Keep a l H H') : TupOf f H' c r := by
  obtain ⟨ne, ns, x, z, h1, h2, _⟩ := S
  exact k _ _ (ne_of (H := H) q h1 (by intro z; cases z)) (ne_of (H := H) q h2 (by intro z; cases z)) q
theorem EaKp {α : Type} {f : α → List V} {H H' : Hp} {a l : Addr} {n : Nat} {xs : List V} {ds : List α} (e : Ea H (TupOf f) xs ds) (S : StreamAt H a l n) (k : Keep a l H H') : Ea H' (TupOf f) xs ds := e.imp fun c r q => TupOf.kp (f := f) q S k
theorem keep_upd {a l D : Addr} {H H' : Hp} {o : HO} (k : Keep a l H H') (hD : H D = Option.none) : Keep a l H (upd H' D o) := fun c u ca cl e => by
  rw [upd_ne (ne_of_none e hD)]
  exact k c u ca cl e
theorem sm4 {z : Int} (h1 : 1 ≤ z) (h2 : z ≤ 1000) : Sm 9000 z := by
  refine sm9000 (n := 10) ?_ (by decide)
  have e : (2 : Nat) ^ 10 = 1024 := by decide
  show z.natAbs < 2 ^ 10
  rw [e]
  omega
theorem atI_last {xs : List V} {x : V} : atI (xs ++ [x]) (-1) = some x := by
  unfold atI ixN
  rw [List.length_append]
  simp only [List.length_singleton]
  rw [if_neg (by decide), if_pos (by omega)]
  rw [Option.bind_some, show ((-1 : Int) + ((xs.length + 1 : Nat) : Int)).toNat = xs.length by omega, List.getElem?_append_right (Nat.le_refl _), Nat.sub_self]
  rfl
theorem snoc_of {α : Type} {xs : List α} (h : xs ≠ []) : ∃ ys y, xs = ys ++ [y] := ⟨xs.dropLast, xs.getLast h, (List.dropLast_concat_getLast h).symm⟩
end PA

set_option maxHeartbeats 2000000
/-! dicts whose keys are tuples of ints, bools, texts and None -/
namespace L2
open PySem PySem.Spec PyProof.Rows
/-- the value v counts as the leaf k -/
def lfIs : Leaf → V → Prop
  | .none, v => v = .non
  | .num i, v => v = .int i ∨ ∃ b : Bool, v = .bl b ∧ i = if b = true then 1 else 0
  | .text x, v => v = .str x
theorem lf_is {k : Leaf} {v : V} {u : Value} (h : lfIs k v) (r : RelV v u) : Leaf.isOf k u = true := by
  cases k with
  | none =>
    cases (show v = .non from h)
    cases (show u = Value.none from r)
    rfl
  | num i =>
    rcases (show v = .int i ∨ ∃ b : Bool, v = .bl b ∧ i = if b = true then 1 else 0 from h) with rfl | ⟨b, rfl, e⟩
    · obtain ⟨t, rfl⟩ := r
      exact decide_eq_true rfl
    · cases (show u = Value.bool b from r)
      exact decide_eq_true e.symm
  | text x =>
    cases (show v = .str x from h)
    obtain ⟨t, rfl⟩ := r
    show Value.isStrOf x (.str x t) = true
    simp [Value.isStrOf]
abbrev LKey := List Leaf
/-- a tuple that is the key k stands at b -/
def KeyAt (H : Hp) (b : Addr) (k : LKey) : Prop := ∃ xs, H b = some (.tup xs) ∧ Paired lfIs k xs
theorem lfs_are {P : Program} {w : World} : ∀ {ks : LKey} {xs : List V} {us : List Value}, Paired lfIs ks xs → Vals xs us → ItemsAre (leafKind P w) ks us
  | [], _, _, .nil, .nil => .nil
  | _ :: _, _, _, .cons h t, .cons r rs => .cons (lf_is h r) (lfs_are t rs)
abbrev dxK (P : Program) (w : World) : HeapKind P w LKey := tupleKind (leafKind P w)
section
variable {P : Program} {w : World} {H H' : Hp} {h : Heap} {a b d : Addr}
theorem KeyAt.is {k : LKey} (x : KeyAt H b k) (ok : HOk P w H h) : (dxK P w).is h k b := by
  obtain ⟨xs, e, r⟩ := x
  obtain ⟨_, its, rv, o, h1, h2, n, h3⟩ := (show ObjOk P w H h b (.tup xs) from ok b _ e)
  exact ⟨o, its.toArray, n, h1, h2, h3, by simpa using lfs_are r rv⟩
theorem KeyAt.kt {k : LKey} (x : KeyAt H b k) (kt : ∀ c ys, H c = some (.tup ys) → H' c = some (.tup ys)) : KeyAt H' b k := let ⟨xs, e, r⟩ := x; ⟨xs, kt _ _ e, r⟩
abbrev DE := LKey × Addr × V
abbrev DW := LKey × Addr × Value
abbrev DRel : List DE → List DW → Prop := Paired fun (p : DE) (q : DW) => p.1 = q.1 ∧ p.2.1 = q.2.1 ∧ RelV p.2.2 q.2.2
def dxR (P : Program) (w : World) (a : Addr) (kvs : List DE) (h : Heap) : Prop := kvs.length ≤ sizeLine ∧ (a == sysModules) = false ∧
  ∃ xs : List DW, DRel kvs xs ∧ ∃ o es ep, h.get? a = some o ∧ o.ExactDict ∧ o.data = .dict es ep ∧ es.toList = xs.map (entryOfKey (dxK P w)) ∧ (xs.map (·.1)).Nodup
/-- the dict at a with these entries: key, the tuple that is the key, value -/
def DX (P : Program) (w : World) (a : Addr) (kvs : List DE) : HO := .ext (dxR P w a kvs)
theorem dx_ok {kvs : List DE} (R : dxR P w a kvs h) : ObjOk P w H h a (DX P w a kvs) := by
  obtain ⟨z, y, xs, r, o, es, ep, h1, h2⟩ := id R
  refine ⟨R, ⟨o, h1⟩, fun g1 g2 p k => ?_⟩
  obtain ⟨z, y, xs, r, o, es, ep, h1, h2⟩ := p
  exact ⟨z, y, xs, r, o, es, ep, k _ h1, h2⟩
/-- the dict at d: keys and values -/
def DxAt (P : Program) (w : World) (H : Hp) (d : Addr) (ps : List (LKey × V)) : Prop := ∃ kvs : List DE, H d = some (DX P w d kvs) ∧ kvs.map (fun p => (p.1, p.2.2)) = ps ∧ ∀ p ∈ kvs, KeyAt H p.2.1 p.1
theorem DxAt.kt {ps : List (LKey × V)} (x : DxAt P w H d ps) (hd : ∀ o, H d = some o → H' d = some o) (kt : ∀ c ys, H c = some (.tup ys) → H' c = some (.tup ys)) : DxAt P w H' d ps :=
  let ⟨kvs, e, m, k⟩ := x; ⟨kvs, hd _ e, m, fun p hp => (k p hp).kt kt⟩
theorem DxAt.same {ps : List (LKey × V)} (x : DxAt P w H d ps) (s : ∀ b o, H b = some o → H' b = some o) : DxAt P w H' d ps := x.kt (fun _ e => s _ _ e) fun _ _ e => s _ _ e
theorem dx_val {kvs : List DE} {xs : List DW} (r : DRel kvs xs) (k : LKey) : RelO (valV (kvs.map fun p => (p.1, p.2.2)) k) ((atKey xs k).map (·.2)) := by
  induction r with
  | nil => exact True.intro
  | @cons p q ps qs h t ih =>
    obtain ⟨h1, h2, h3⟩ := h
    rw [List.map_cons]
    by_cases e : p.1 = k
    · have b : atKey (q :: qs) k = some q.2 := by simp [atKey, List.find?_cons, h1.symm.trans e]
      rw [valV_pos e, b]
      exact h3
    · have b : atKey (q :: qs) k = atKey qs k := by
        have e' : ¬ q.1 = k := fun z => e (h1.trans z)
        simp [atKey, List.find?_cons, e']
      rw [valV_neg e, b]
      exact ih
theorem dx_of {kvs : List DE} (ok : HOk P w H h) (e : H d = some (DX P w d kvs)) (ka : ∀ p ∈ kvs, KeyAt H p.2.1 p.1) : kvs.length ≤ sizeLine ∧ (d == sysModules) = false ∧ ∃ xs, DRel kvs xs ∧ h.DictOfH (dxK P w) d xs := by
  obtain ⟨z, y, xs, r, o, es, ep, h1, h2, h3, h4, h5⟩ := (ok d _ e).1
  refine ⟨z, y, xs, r, o, es, ep, h1, h2, h3, h4, fun x hx => ?_, h5⟩
  have all : ∀ {l : List DE} {m : List DW}, DRel l m → (∀ p ∈ l, KeyAt H p.2.1 p.1) → ∀ x ∈ m, (dxK P w).is h x.1 x.2.1 := by
    intro l m q
    induction q with
    | nil => intro _ x hx; cases hx
    | @cons p q ps qs hq t ih =>
      intro g x hx
      rcases List.mem_cons.mp hx with rfl | hx
      · have := (g p List.mem_cons_self).is ok
        rw [hq.1, hq.2.1] at this
        exact this
      · exact ih (fun p hp => g p (List.mem_cons_of_mem _ hp)) x hx
  exact all r ka x hx
end
section
variable {X : Cx}
theorem op_in_dx (hu : X.A.units + 1 < cLine) : OpR X (compareOp .In) (fun x y H Q => ∃ d b ps k, x = .ref b ∧ y = .ref d ∧ DxAt X.prog X.w H d ps ∧ KeyAt H b k ∧ Q (.bl (valV ps k).isSome) H) := by
  intro pins s σ H x y v u Q I rx ry h
  obtain ⟨d, b, ps, k, rfl, rfl, ⟨kvs, e, rfl, ka⟩, hk, q⟩ := h
  cases rx
  cases ry
  obtain ⟨z, hd, xs, r, dd⟩ := dx_of I.hok e ka
  refine wpAny_in_heap (tupleKind_room_in1 hu) (hk.is I.hok) hd dd ?_
  have e2 := (dx_val r k).isSome_eq
  rw [Option.isSome_map] at e2
  rw [← e2]
  exact ⟨.bl _, H, I.tok _, rfl, q⟩
theorem op_notIn_dx (hu : X.A.units + 1 < cLine) : OpR X (compareOp .NotIn) (fun x y H Q => ∃ d b ps k, x = .ref b ∧ y = .ref d ∧ DxAt X.prog X.w H d ps ∧ KeyAt H b k ∧ Q (.bl (!(valV ps k).isSome)) H) := by
  intro pins s σ H x y v u Q I rx ry h
  obtain ⟨d, b, ps, k, rfl, rfl, ⟨kvs, e, rfl, ka⟩, hk, q⟩ := h
  cases rx
  cases ry
  obtain ⟨z, hd, xs, r, dd⟩ := dx_of I.hok e ka
  refine wpAny_notIn_heap (tupleKind_room_in1 hu) (hk.is I.hok) hd dd ?_
  have e2 := (dx_val r k).isSome_eq
  rw [Option.isSome_map] at e2
  rw [← e2]
  exact ⟨.bl _, H, I.tok _, rfl, q⟩
theorem ix_dx (hu : X.A.units + 1 < cLine) : IxR X (fun x y H Q => ∃ d b ps k v, x = .ref d ∧ y = .ref b ∧ DxAt X.prog X.w H d ps ∧ KeyAt H b k ∧ valV ps k = some v ∧ Q v H) := by
  intro value slice pins s σ H x y v u Q I rx ry h hs
  obtain ⟨d, b, ps, k, r, rfl, rfl, ⟨kvs, e, rfl, ka⟩, hk, hv, q⟩ := h
  cases rx
  cases ry
  obtain ⟨z, hd, xs, rel, dd⟩ := dx_of I.hok e ka
  obtain ⟨w', hw, rw'⟩ := RelO.some_of (v := r) (o := (atKey xs k).map (·.2)) (by rw [← hv]; exact dx_val rel k)
  obtain ⟨p, hp, hp2⟩ := Option.map_eq_some_iff.mp hw
  refine tail_any dd.typeIs slot_dict_getitem.lookup (wpAny_getItem_heap (tupleKind_room_in1 hu) (hk.is I.hok) dd hp ?_) hs
  rw [hp2]
  exact ⟨r, H, I.tok _, rw', q⟩
/-- d[b] = v, the key is new -/
theorem set_dx (hu : X.A.units + 1 < cLine) : PSet X (fun o i v H Q => ∃ d b kvs k, o = .ref d ∧ i = .ref b ∧ H d = some (DX X.prog X.w d kvs) ∧ (∀ p ∈ kvs, KeyAt H p.2.1 p.1) ∧ KeyAt H b k ∧ valV (kvs.map fun p => (p.1, p.2.2)) k = none ∧ kvs.length < sizeLine ∧
    Q (upd H d (DX X.prog X.w d (kvs ++ [(k, b, v)])))) := by
  intro pins s σ H o i v ov iv u Q I ro ri rv h
  obtain ⟨d, b, kvs, k, rfl, rfl, e, ka, hk, hv, hl, q⟩ := h
  cases ro
  cases ri
  obtain ⟨z, hd, xs, rel, dd⟩ := dx_of I.hok e ka
  have hlen := Paired.length rel
  have hn : atKey xs k = none := by
    have e2 := (dx_val rel k).isSome_eq
    rw [Option.isSome_map, hv] at e2
    cases hx : atKey xs k with
    | none => rfl
    | some p => rw [hx] at e2; cases e2
  refine wpAny_setItem_heap (hsz := by rw [← hlen]; exact z) (tupleKind_room_in1 hu) (hk.is I.hok) dd fun h' dd' hs => ?_
  have es : storedH xs k b u = xs ++ [(k, b, u)] := by
    unfold storedH
    rw [hn]
    rfl
  rw [es] at dd'
  obtain ⟨ob, en, ep, hq, h2, h3, h4, _, h5⟩ := dd'
  refine ⟨_, I.write (x := d) (e := d) (by rw [e]; exact True.intro) (.inl rfl) (fun c y hb z => (hs.2 c hb).trans z) ⟨ob, hq⟩ (dx_ok ⟨?_, hd, _, Paired.snoc rel ⟨rfl, rfl, rv⟩, ob, en, ep, hq, h2, h3, h4, h5⟩), q⟩
  rw [List.length_append]
  exact hl
theorem pe_dnewX {pos : Pos} : PE X (.Dict [] [] pos) (fun _ H Q => ∀ p, H p = none → Q (.ref p) (upd H p (DX X.prog X.w p []))) := ⟨fun pins s σ H Q I h =>
  wpAny_Dict_empty ⟨.ref s.heap.objs.size, _, I.laid (a := s.heap.objs.size) (o := DX X.prog X.w s.heap.objs.size []) (t' := s.toks) (fun _ _ q => Heap.get?_push_of_some _ q) (Nat.le_refl _)
    (dx_ok ⟨Nat.zero_le _, beq_eq_false_iff_ne.mpr (Ne.symm (Nat.ne_of_lt I.big)), [], .nil, _, #[], 0, Heap.get?_push_size _ rfl, ⟨rfl, rfl, rfl⟩, rfl, rfl, List.nodup_nil⟩), rfl, h _ (I.hok.fresh (Nat.le_refl _))⟩⟩
end
end L2

set_option maxHeartbeats 4000000
/-! zip and enumerate over lists and tuples in any mix -/
namespace L2
open PySem PySem.Spec PyProof.Rows RZ
def IterK (k : Kind) (h : Heap) (it a : Addr) (i : Nat) : Prop := match k with
  | .l => h.IsListIter it a i
  | .t => h.IsTupleIter it a i
def SeqK (k : Kind) (h : Heap) (a : Addr) (its : Array Value) : Prop := match k with
  | .l => h.IsList a its
  | .t => h.IsTuple a its
def begO (k : Kind) (a : Addr) : Obj := match k with
  | .l => { cls := .type "list_iterator", data := .fields #[.ref a, .int 0 0] }
  | .t => { cls := .type "tuple_iterator", data := .fields #[.ref a, .int 0 0] }
theorem begins_k (k : Kind) (a : Addr) (its : Array Value) : Begins (.ref a) (begO k a) fun h => SeqK k h a its := by
  cases k
  · exact begins_list a its
  · exact begins_tuple a its
theorem iter_0 {k : Kind} {h : Heap} {it a : Addr} (e : h.get? it = some (begO k a)) : IterK k h it a 0 := by
  cases k
  · exact ⟨_, e, rfl, rfl⟩
  · exact ⟨_, e, rfl, rfl⟩
theorem iterK_at {k : Kind} {h h' : Heap} {it a : Addr} {i : Nat} (x : IterK k h it a i) (e : ∀ o, h.get? it = some o → h'.get? it = some o) : IterK k h' it a i := by
  cases k
  · exact x.at e
  · exact x.at e
theorem iterK_obj {k : Kind} {h : Heap} {it a : Addr} {i : Nat} (x : IterK k h it a i) : ∃ o, h.get? it = some o ∧ ∀ v, o.data ≠ .cell v := by
  cases k
  · obtain ⟨o, e, _, d⟩ := x
    exact ⟨o, e, fun v z => by rw [d] at z; cases z⟩
  · obtain ⟨o, e, _, d⟩ := x
    exact ⟨o, e, fun v z => by rw [d] at z; cases z⟩
theorem seqK_lt {k : Kind} {h : Heap} {a : Addr} {its : Array Value} (x : SeqK k h a its) : a < h.objs.size := by
  cases k
  · obtain ⟨o, e, _⟩ := x; exact Heap.lt_size e
  · obtain ⟨o, e, _⟩ := x; exact Heap.lt_size e
theorem draws_k {P : Program} {w : World} {A : Around} (k : Kind) (hh : A.handled = none) (it a : Addr) (hne : a ≠ it) (its : Array Value) :
    Draws P w A it [it, a] its.size (fun i v => its[i]? = some v) (fun i h => IterK k h it a i ∧ SeqK k h a its) := by
  cases k
  · exact Draws.list hh it a hne its
  · exact Draws.tuple hh it a hne its
theorem seq_k {X : Cx} {pins : List (Addr × Obj)} {σ : L2.St} {H : Hp} {s : Shared} {k : Kind} {a : Addr} {xs : List V} (I : Inv X pins σ H s) (h : Sk X.K k H a xs) : ∃ its : List Value, Vals xs its ∧ SeqK k s.heap a its.toArray := by
  cases k
  · obtain ⟨its, r, p, _⟩ := I.list h
    exact ⟨its, r, p.isList⟩
  · obtain ⟨its, r, p, _⟩ := I.tuple h
    exact ⟨its, r, p⟩
theorem sk_inj {X : Cx} {pins : List (Addr × Obj)} {σ : L2.St} {H : Hp} {s : Shared} {k : Kind} {a : Addr} {xs ys : List V} (I : Inv X pins σ H s) (h : Sk X.K k H a xs) (h' : Sk X.K k H a ys) : xs = ys := by
  cases k
  · exact I.list_inj h h'
  · exact I.tuple_inj h h'
/-! ### zip -/
def ItM (K : PySem.W.Frag) (k1 k2 : Kind) (a b : Addr) : It :=
  ⟨fun i H => ∃ (xs ys : List V), Sk K k1 H a xs ∧ Sk K k2 H b ys ∧ i < xs.length ∧ i < ys.length,
    fun i H v H' => ∃ T x y, v = .ref T ∧ H T = none ∧ H' = upd H T (.tup [x, y]) ∧ (∀ xs, Sk K k1 H a xs → xs[i]? = some x) ∧ ∀ ys, Sk K k2 H b ys → ys[i]? = some y,
    fun i H => ∃ (xs ys : List V), Sk K k1 H a xs ∧ Sk K k2 H b ys ∧ i ≤ xs.length ∧ i ≤ ys.length ∧ (i = xs.length ∨ i = ys.length)⟩
theorem walk_m {K : PySem.W.Frag} {k1 k2 : Kind} {a b : Addr} {xs ys : List V} {n : Nat} (hn : n = min xs.length ys.length) : Walk (ItM K k1 k2 a b) n (fun H => Sk K k1 H a xs ∧ Sk K k2 H b ys) (YPair (fun i => xs[i]?) (fun i => ys[i]?)) :=
  ⟨fun i H hi q => ⟨xs, ys, q.1, q.2, by omega, by omega⟩, fun H q => ⟨xs, ys, q.1, q.2, by omega, by omega, by omega⟩, fun i H v H' hi q y => by
    obtain ⟨T, x, z, rfl, hT, rfl, f1, f2⟩ := y
    exact ⟨T, x, z, rfl, hT, rfl, f1 xs q.1, f2 ys q.2⟩⟩
theorem turn_m {P : Program} {w : World} {K : PySem.W.Frag} {k1 k2 : Kind} {elts : List Expr} {kk : Nat} {tpos : Pos} {a b z TI TO i1 i2 : Addr} (S : ZipSep2 z TI TO i1 i2 [i1, a] [i2, b]) (na : a ≠ i1) (nb : b ≠ i2) :
    Turn P w K (.Tuple elts kk tpos) (ItM K k1 k2 a b) [z, TI, TO, i1, i2] z (fun i h => IsZip h z TI TO .none ∧ IsTupOf2 h TI (.ref i1) (.ref i2) ∧ (∃ x y, IsTupOf2 h TO x y) ∧ IterK k1 h i1 a i ∧ IterK k2 h i2 b i) where
  mem := List.mem_cons_self
  obj := fun i h st c hc => by
    obtain ⟨g1, g2, ⟨x, y, g3⟩, g4, g5⟩ := st
    simp only [List.mem_cons, List.not_mem_nil, or_false] at hc
    rcases hc with rfl | rfl | rfl | rfl | rfl
    · exact ⟨_, g1, fun v e => by cases e⟩
    · exact ⟨_, g2, fun v e => by cases e⟩
    · exact ⟨_, g3, fun v e => by cases e⟩
    · exact iterK_obj g4
    · exact iterK_obj g5
  keep := fun i h h' st kp => by
    obtain ⟨g1, g2, ⟨x, y, g3⟩, g4, g5⟩ := st
    exact ⟨kp z (by simp) _ g1, kp TI (by simp) _ g2, ⟨x, y, kp TO (by simp) _ g3⟩, iterK_at g4 fun o e => kp i1 (by simp) o e, iterK_at g5 fun o e => kp i2 (by simp) o e⟩
  item := by
    intro X eP ew eK calm i pins s σ H E I own st go
    subst eP ew eK
    obtain ⟨g1, g2, ⟨x0, y0, g3⟩, g4, g5⟩ := st
    obtain ⟨xs, ys, qx, qy, lx, ly⟩ := go
    obtain ⟨us, ru, pu⟩ := seq_k I qx
    obtain ⟨vs, rv, pv⟩ := seq_k I qy
    have hu := ru.length
    have hv := rv.length
    have zlt : z < s.heap.objs.size := Heap.lt_size g1
    have D1 := draws_k (P := X.prog) (w := X.w) (A := X.A.in1) k1 (I.ok.hd calm) i1 a na us.toArray
    have D2 := draws_k (P := X.prog) (w := X.w) (A := X.A.in1) k2 (I.ok.hd calm) i2 b nb vs.toArray
    refine wpAny_pyNext_zipD2_item S D1 D2 g1 g2 g3 ⟨g4, pu⟩ ⟨g5, pv⟩ (by simp; omega) (by simp; omega) fun x1 x2 h' tk px py z' t' s1 s2 nt hsz kp => ?_
    obtain ⟨v1, e1, r1⟩ : ∃ v1, xs[i]? = some v1 ∧ RelV v1 x1 := by
      have ex : xs[i]? = some xs[i] := List.getElem?_eq_getElem lx
      obtain ⟨u, hu', ru'⟩ := ru.get ex
      have : u = x1 := by
        have px' : us[i]? = some x1 := by simpa using px
        rw [hu'] at px'
        exact Option.some.inj px'
      exact ⟨_, ex, this ▸ ru'⟩
    obtain ⟨v2, e2, r2⟩ : ∃ v2, ys[i]? = some v2 ∧ RelV v2 x2 := by
      have ey : ys[i]? = some ys[i] := List.getElem?_eq_getElem ly
      obtain ⟨u, hu', ru'⟩ := rv.get ey
      have : u = x2 := by
        have py' : vs[i]? = some x2 := by simpa using py
        rw [hu'] at py'
        exact Option.some.inj py'
      exact ⟨_, ey, this ▸ ru'⟩
    refine ⟨_, rfl, wpAny_letOwnedTupleGo_zip (s := { s with heap := h', toks := tk }) z' fun g z'' sb => ?_⟩
    have nt2 : g.get? s.heap.objs.size = some { cls := .type "tuple", data := .seq #[x1, x2] } := (sb.2 _ (Nat.ne_of_gt zlt)).trans nt
    have ob : ObjOk X.prog X.w (upd H s.heap.objs.size (.tup [v1, v2])) g s.heap.objs.size (.tup [v1, v2]) :=
      ⟨by show 2 ≤ sizeLine; decide, [x1, x2], .cons r1 (.cons r2 .nil), _, nt2, rfl, _, rfl⟩
    have all : ∀ c o, ¬ c ∈ [z, TI, TO, i1, i2] → s.heap.get? c = some o → g.get? c = some o := fun c o hn e => by
      simp only [List.mem_cons, List.not_mem_nil, or_false, not_or] at hn
      exact (sb.2 c hn.1).trans (kp c o hn.1 hn.2.2.1 hn.2.2.2.1 hn.2.2.2.2 e)
    have J := I.turnedNew (t' := tk) (ch := [z, TI, TO, i1, i2]) all own (Nat.le_refl _) ob
    have sz1 := S.zf1
    have sz2 := S.zf2
    simp only [List.mem_cons, List.not_mem_nil, or_false, not_or] at sz1 sz2
    refine ⟨.ref s.heap.objs.size, _, J, rfl, ⟨_, v1, v2, rfl, I.hok.fresh (Nat.le_refl _), rfl, fun l hl => by rw [sk_inj I hl qx]; exact e1, fun l hl => by rw [sk_inj I hl qy]; exact e2⟩, ⟨z'', ?_, ⟨x1, x2, ?_⟩, ?_, ?_⟩, fun c hc => ?_⟩
    · have := (sb.2 TI S.TIz).trans (kp TI _ S.TIz S.TITO S.TIi1 S.TIi2 g2)
      exact this
    · exact (sb.2 TO S.TOz).trans t'
    · exact iterK_at s1.1 fun o e => (sb.2 i1 (fun q => sz1.1 q.symm)).trans e
    · exact iterK_at s2.1 fun o e => (sb.2 i2 (fun q => sz2.1 q.symm)).trans e
    · have clt : c < s.heap.objs.size := by
        simp only [List.mem_cons, List.not_mem_nil, or_false] at hc
        rcases hc with rfl | rfl | rfl | rfl | rfl
        · exact zlt
        · exact Heap.lt_size g2
        · exact Heap.lt_size g3
        · obtain ⟨_, e, _⟩ := iterK_obj g4; exact Heap.lt_size e
        · obtain ⟨_, e, _⟩ := iterK_obj g5; exact Heap.lt_size e
      rw [upd_ne (Nat.ne_of_lt clt)]
      exact (own c hc).1
  done := by
    intro X eP ew eK calm i pins s σ H E I own st go
    subst eP ew eK
    obtain ⟨g1, g2, ⟨x0, y0, g3⟩, g4, g5⟩ := st
    obtain ⟨xs, ys, qx, qy, lx, ly, le⟩ := go
    obtain ⟨us, ru, pu⟩ := seq_k I qx
    obtain ⟨vs, rv, pv⟩ := seq_k I qy
    have hu := ru.length
    have hv := rv.length
    have D1 := draws_k (P := X.prog) (w := X.w) (A := X.A.in1) k1 (I.ok.hd calm) i1 a na us.toArray
    have D2 := draws_k (P := X.prog) (w := X.w) (A := X.A.in1) k2 (I.ok.hd calm) i2 b nb vs.toArray
    refine wpAny_pyNext_zipD2_end S D1 D2 g1 g2 g3 ⟨g4, pu⟩ ⟨g5, pv⟩ (by simp; omega) (by simp; omega) (by simp; omega) fun h' tk kp => ⟨rfl, ?_⟩
    refine I.turnedL (t' := tk) (ch := [z, TI, TO, i1, i2]) (fun c o hn e => ?_) own
    simp only [List.mem_cons, List.not_mem_nil, or_false, not_or] at hn
    exact kp c o hn.1 hn.2.2.1 hn.2.2.2.1 hn.2.2.2.2 e
  self := fun A i s Q E st h => wpAny_pyIter_zip st.1 h
/-- zip of a list or a tuple with a list or a tuple -/
def iZipM (K : PySem.W.Frag) (ta : TA) : TI := fun σ H R => ta σ H fun vs H1 => ∃ k1 k2 a b xs ys, vs = [.ref a, .ref b] ∧ Sk K k1 H1 a xs ∧ Sk K k2 H1 b ys ∧ R (ItM K k1 k2 a b) H1
theorem pi_zipM {X : Cx} {e e2 : Expr} {ta : TA} {p pos tpos : Pos} {elts : List Expr} {kk : Nat} (hg : Gl X "zip") (hm : X.mg "zip" = none) (ha : PA X [e, e2] ta)
    (hs : starEach [e, e2] X.env = (false, eval e X.env) :: starEach [e2] X.env := by rfl) (hpl : (backTo pos (starEach [e2] X.env)).any (·.1) = false := by rfl) :
    PI X (.Tuple elts kk tpos) (.Call (.Name "zip" p) [e, e2] [] pos) (iZipM X.K ta) := by
  refine ⟨fun pins s σ H R I h => Call_ (ld_blt I hg hm PyProof.Rows.boot_zip (PyProof.Rows.callWith_type1 (thn (ha.run pos pins s σ H _ I h) fun us t q => ?_) hs hpl))⟩
  obtain ⟨vs, G, J, r1, k1, k2, a, b, xs, ys, ev, qx, qy, q⟩ := q
  subst ev
  cases r1 with
  | cons ra rr =>
    cases rr with
    | cons rb rr =>
      cases rr
      cases ra
      cases rb
      obtain ⟨us, ru, pu⟩ := seq_k J qx
      obtain ⟨ws, rw_, pw⟩ := seq_k J qy
      have la := seqK_lt pu
      have lb := seqK_lt pw
      generalize hN : t.heap.objs.size = N at la lb
      refine zip_begins2 (begins_k k1 a us.toArray) (begins_k k2 b ws.toArray) pu pw fun h' g1 g2 g3 g4 g5 hsz kp => wpAny_pyIter_zip g1 ?_
      rw [hN] at g1 g2 g3 g4 g5
      rw [hN]
      have J2 : Inv X pins σ G { t with heap := h' } := J.kept (t' := t.toks) kp
      have S : ZipSep2 (N + 4) (N + 2) (N + 3) N (N + 1) [N, a] [N + 1, b] :=
        zip_sep2 (fp1 := [a]) (fp2 := [b]) (fun c hc => by rw [List.mem_singleton.mp hc]; exact la) (fun c hc => by rw [List.mem_singleton.mp hc]; exact lb)
      refine ⟨N + 4, [N + 4, N + 2, N + 3, N, N + 1], _, _, G, rfl, J2, turn_m (k1 := k1) (k2 := k2) S (Nat.ne_of_lt la) (Nat.ne_of_lt (Nat.lt_succ_of_lt lb)), ⟨g1, g2, ⟨_, _, g3⟩, iter_0 g4, iter_0 g5⟩, fun c hc => ?_, q⟩
      have le : t.heap.objs.size ≤ c := by
        rw [hN]
        simp only [List.mem_cons, List.not_mem_nil, or_false] at hc
        rcases hc with h1 | h1 | h1 | h1 | h1 <;> rw [h1]
        · exact Nat.le_add_right N 4
        · exact Nat.le_add_right N 2
        · exact Nat.le_add_right N 3
        · exact Nat.le_refl N
        · exact Nat.le_add_right N 1
      exact J.fpOk le (J.hok.fresh le)
end L2

namespace LF
section
variable {κ : Type} [DecidableEq κ]
/-! ### places in a list -/
def ix : List κ → κ → Nat
  | [], _ => 0
  | a :: l, k => if a = k then 0 else ix l k + 1
theorem ix_lt : ∀ {l : List κ} {k : κ}, k ∈ l → ix l k < l.length
  | [], _, h => by cases h
  | a :: l, k, h => by
    unfold ix
    by_cases e : a = k
    · rw [if_pos e]; exact Nat.succ_pos _
    · rw [if_neg e]
      rcases List.mem_cons.mp h with rfl | h
      · exact absurd rfl e
      · exact Nat.succ_lt_succ (ix_lt h)
theorem get_ix : ∀ {l : List κ} {k : κ}, k ∈ l → l[ix l k]? = some k
  | [], _, h => by cases h
  | a :: l, k, h => by
    unfold ix
    by_cases e : a = k
    · rw [if_pos e, e]; rfl
    · rw [if_neg e]
      rcases List.mem_cons.mp h with rfl | h
      · exact absurd rfl e
      · exact get_ix h
theorem ix_get : ∀ {l : List κ} {i : Nat} {k : κ}, l.Nodup → l[i]? = some k → ix l k = i
  | [], _, _, _, h => by simp at h
  | a :: l, 0, k, _, h => by
    have e : a = k := by simpa using h
    unfold ix
    rw [if_pos e]
  | a :: l, i + 1, k, hn, h => by
    have h' : l[i]? = some k := by simpa using h
    have hm : k ∈ l := List.mem_of_getElem? h'
    have hn' := List.nodup_cons.mp hn
    have e : ¬ a = k := fun e => hn'.1 (e ▸ hm)
    unfold ix
    rw [if_neg e, ix_get hn'.2 h']
theorem ix_app : ∀ {l m : List κ} {k : κ}, k ∈ l → ix (l ++ m) k = ix l k
  | [], _, _, h => by cases h
  | a :: l, m, k, h => by
    rw [List.cons_append]
    unfold ix
    by_cases e : a = k
    · rw [if_pos e, if_pos e]
    · rw [if_neg e, if_neg e]
      rcases List.mem_cons.mp h with rfl | h
      · exact absurd rfl e
      · rw [ix_app h]
theorem ix_new : ∀ {l : List κ} {k : κ}, ¬ k ∈ l → ∀ m, ix (l ++ k :: m) k = l.length
  | [], k, _, m => by
    show ix (k :: m) k = 0
    unfold ix
    rw [if_pos rfl]
  | a :: l, k, h, m => by
    rw [List.cons_append]
    unfold ix
    have h' := fun z => h (List.mem_cons_of_mem a z)
    rw [if_neg (fun e : a = k => h (by rw [e]; exact List.mem_cons_self)), ix_new h' m]
    rfl
theorem ix_inj {l : List κ} {a b : κ} (ha : a ∈ l) (hb : b ∈ l) (e : ix l a = ix l b) : a = b := by
  have h1 := get_ix ha
  have h2 := get_ix hb
  rw [e, h2] at h1
  exact (Option.some.inj h1).symm
theorem ix_map {μ : Type} [DecidableEq μ] (f : κ → μ) : ∀ {l : List κ} {k : κ}, (∀ a ∈ l, f a = f k → a = k) → ix (l.map f) (f k) = ix l k
  | [], _, _ => rfl
  | a :: l, k, h => by
    rw [List.map_cons]
    unfold ix
    by_cases e : a = k
    · rw [if_pos e, if_pos (congrArg f e)]
    · rw [if_neg e, if_neg (fun z => e (h a List.mem_cons_self z)), ix_map f (fun b hb => h b (List.mem_cons_of_mem _ hb))]
/-! ### each once, in the order of the first places -/
def push (s : List κ) (k : κ) : List κ := if k ∈ s then s else s ++ [k]
def uniq (ks : List κ) : List κ := ks.foldl push []
def numb (ks : List κ) : List Nat := ks.map fun k => ix (uniq ks) k
theorem mem_push {s : List κ} {k x : κ} : x ∈ push s k ↔ x ∈ s ∨ x = k := by
  unfold push
  by_cases h : k ∈ s
  · rw [if_pos h]
    exact ⟨.inl, fun z => z.elim id fun e => e ▸ h⟩
  · rw [if_neg h, List.mem_append, List.mem_singleton]
theorem fold_mem : ∀ {ks s : List κ} {x : κ}, x ∈ ks.foldl push s ↔ x ∈ s ∨ x ∈ ks
  | [], s, x => by simp
  | k :: ks, s, x => by
    rw [List.foldl_cons, fold_mem, mem_push, List.mem_cons]
    constructor
    · rintro ((h | h) | h)
      · exact .inl h
      · exact .inr (.inl h)
      · exact .inr (.inr h)
    · rintro (h | h | h)
      · exact .inl (.inl h)
      · exact .inl (.inr h)
      · exact .inr h
theorem uniq_mem {ks : List κ} {x : κ} : x ∈ uniq ks ↔ x ∈ ks := by
  unfold uniq
  rw [fold_mem]
  simp
theorem nodup_snoc {s : List κ} {k : κ} (h : s.Nodup) (hk : ¬ k ∈ s) : (s ++ [k]).Nodup := by
  rw [List.nodup_append]
  refine ⟨h, by simp, fun a ha b hb => ?_⟩
  rw [List.mem_singleton] at hb
  rintro rfl
  exact hk (hb ▸ ha)
theorem push_nodup {s : List κ} {k : κ} (h : s.Nodup) : (push s k).Nodup := by
  unfold push
  by_cases hk : k ∈ s
  · rw [if_pos hk]; exact h
  · rw [if_neg hk]; exact nodup_snoc h hk
theorem fold_nodup : ∀ {ks s : List κ}, s.Nodup → (ks.foldl push s).Nodup
  | [], _, h => h
  | k :: ks, s, h => by rw [List.foldl_cons]; exact fold_nodup (push_nodup h)
theorem uniq_nodup {ks : List κ} : (uniq ks).Nodup := fold_nodup List.nodup_nil
theorem fold_pre : ∀ (ks s : List κ), ∃ t, ks.foldl push s = s ++ t
  | [], s => ⟨[], by simp⟩
  | k :: ks, s => by
    obtain ⟨t, e⟩ := fold_pre ks (push s k)
    rw [List.foldl_cons, e]
    unfold push
    by_cases h : k ∈ s
    · rw [if_pos h]; exact ⟨t, rfl⟩
    · rw [if_neg h, List.append_assoc]; exact ⟨_, rfl⟩
theorem uniq_snoc (ks : List κ) (k : κ) : uniq (ks ++ [k]) = push (uniq ks) k := by
  unfold uniq
  rw [List.foldl_append]
  rfl
theorem uniq_pre (ks ls : List κ) : ∃ t, uniq (ks ++ ls) = uniq ks ++ t := by
  unfold uniq
  rw [List.foldl_append]
  exact fold_pre ls _
theorem fold_len : ∀ (ks s : List κ), (ks.foldl push s).length ≤ s.length + ks.length
  | [], s => by simp
  | k :: ks, s => by
    rw [List.foldl_cons]
    have h := fold_len ks (push s k)
    have h2 : (push s k).length ≤ s.length + 1 := by
      unfold push
      by_cases hk : k ∈ s
      · rw [if_pos hk]; omega
      · rw [if_neg hk, List.length_append]; simp
    rw [List.length_cons]
    omega
theorem uniq_len (ks : List κ) : (uniq ks).length ≤ ks.length := by
  have := fold_len ks []
  simpa [uniq] using this
theorem numb_len (ks : List κ) : (numb ks).length = ks.length := by unfold numb; rw [List.length_map]
theorem numb_get {ks : List κ} {i : Nat} {k : κ} (h : ks[i]? = some k) : (numb ks)[i]? = some (ix (uniq ks) k) := by
  unfold numb
  rw [List.getElem?_map, h]
  rfl
theorem fold_map {μ : Type} [DecidableEq μ] (f : κ → μ) : ∀ {ks s : List κ}, (∀ a b, (a ∈ ks ∨ a ∈ s) → (b ∈ ks ∨ b ∈ s) → f a = f b → a = b) → (ks.map f).foldl push (s.map f) = (ks.foldl push s).map f
  | [], s, _ => rfl
  | k :: ks, s, h => by
    rw [List.map_cons, List.foldl_cons, List.foldl_cons]
    have e : push (s.map f) (f k) = (push s k).map f := by
      unfold push
      by_cases hk : k ∈ s
      · rw [if_pos hk, if_pos (List.mem_map_of_mem hk)]
      · have : ¬ f k ∈ s.map f := fun z => by
          obtain ⟨a, ha, e⟩ := List.mem_map.mp z
          have := h a k (.inr ha) (.inl List.mem_cons_self) e
          exact hk (this ▸ ha)
        rw [if_neg hk, if_neg this, List.map_append]
        rfl
    rw [e]
    refine fold_map f fun a b ha hb => h a b ?_ ?_
    · rcases ha with ha | ha
      · exact .inl (List.mem_cons_of_mem _ ha)
      · exact (mem_push.mp ha).elim .inr fun z => .inl (z ▸ List.mem_cons_self)
    · rcases hb with hb | hb
      · exact .inl (List.mem_cons_of_mem _ hb)
      · exact (mem_push.mp hb).elim .inr fun z => .inl (z ▸ List.mem_cons_self)
theorem uniq_map {μ : Type} [DecidableEq μ] (f : κ → μ) {ks : List κ} (h : ∀ a b, a ∈ ks → b ∈ ks → f a = f b → a = b) : uniq (ks.map f) = (uniq ks).map f := by
  have := fold_map (s := []) f (ks := ks) fun a b ha hb => h a b (by simpa using ha) (by simpa using hb)
  simpa [uniq] using this
theorem numb_map {μ : Type} [DecidableEq μ] (f : κ → μ) {ks : List κ} (h : ∀ a b, a ∈ ks → b ∈ ks → f a = f b → a = b) : numb (ks.map f) = numb ks := by
  unfold numb
  rw [uniq_map f h, List.map_map]
  refine List.map_congr_left fun k hk => ?_
  exact ix_map f fun a ha e => h a k (uniq_mem.mp ha) hk e
/-- lists with the same pattern have the same numbers -/
theorem numb_congr {μ : Type} [DecidableEq μ] {ks : List κ} {ls : List μ} (hl : ks.length = ls.length) (h : ∀ (i j : Nat) (a b : κ) (c d : μ), ks[i]? = some a → ks[j]? = some b → ls[i]? = some c → ls[j]? = some d → (a = b ↔ c = d)) : numb ks = numb ls := by
  by_cases hz : ls = []
  · subst hz
    have : ks = [] := List.length_eq_zero_iff.mp hl
    subst this
    rfl
  obtain ⟨d0, _, _⟩ := List.exists_cons_of_ne_nil hz
  let f : κ → μ := fun k => ls.getD (ix ks k) d0
  have hf : ∀ (i : Nat) (a : κ), ks[i]? = some a → ls[i]? = some (f a) := by
    intro i a hi
    have hm := List.mem_of_getElem? hi
    have h1 := get_ix hm
    have hlt := ix_lt hm
    have hlt2 : ix ks a < ls.length := by rw [← hl]; exact hlt
    have hi2 : i < ls.length := by rw [← hl]; exact (List.getElem?_eq_some_iff.mp hi).1
    have e1 : ls[ix ks a]? = some ls[ix ks a] := List.getElem?_eq_getElem hlt2
    have e2 : ls[i]? = some ls[i] := List.getElem?_eq_getElem hi2
    have := (h i (ix ks a) a a _ _ hi h1 e2 e1).mp rfl
    show ls[i]? = some (ls.getD (ix ks a) d0)
    rw [List.getD_eq_getElem?_getD, e1, e2, this]
    rfl
  have e : ls = ks.map f := by
    refine List.ext_getElem? fun i => ?_
    rw [List.getElem?_map]
    cases hi : ks[i]? with
    | none =>
      rw [List.getElem?_eq_none_iff] at hi
      exact List.getElem?_eq_none_iff.mpr (by rw [← hl]; exact hi)
    | some a => exact hf i a hi
  rw [e]
  refine (numb_map f fun a b ha hb z => ?_).symm
  obtain ⟨i, hi⟩ := List.getElem?_of_mem ha
  obtain ⟨j, hj⟩ := List.getElem?_of_mem hb
  exact (h i j a b _ _ hi hj (hf i a hi) (hf j b hj)).mpr z
theorem numb_iff {ks : List κ} {i j : Nat} {a b : κ} (hi : ks[i]? = some a) (hj : ks[j]? = some b) : ((numb ks).getD i 0 = (numb ks).getD j 0) ↔ a = b := by
  rw [List.getD_eq_getElem?_getD, List.getD_eq_getElem?_getD, numb_get hi, numb_get hj]
  constructor
  · intro e
    exact ix_inj (uniq_mem.mpr (List.mem_of_getElem? hi)) (uniq_mem.mpr (List.mem_of_getElem? hj)) e
  · rintro rfl
    rfl
end
end LF

namespace LF
section
variable {L : Type} [DecidableEq L]
/-- a row: next and word after a call of the case ahead, next and word after a call of the other one -/
abbrev Row (L : Type) := Nat × L × Nat × L
def TOk (rows : List (Row L)) : Prop := ∀ r ∈ rows, r.1 < rows.length ∧ r.2.2.1 < rows.length
def at_ (cs : List Nat) (i : Nat) : Nat := cs.getD i 0
def key1 (r : Row L) : L × L := (r.2.1, r.2.2.2)
def key2 (cs : List Nat) (x : Row L × Nat) : Nat × Nat × Nat := (at_ cs x.2, at_ cs x.1.1, at_ cs x.1.2.2.1)
def split (rows : List (Row L)) (cs : List Nat) : List Nat := numb (rows.zipIdx.map (key2 cs))
def chain (rows : List (Row L)) : Nat → List Nat
  | 0 => numb (rows.map key1)
  | k + 1 => split rows (chain rows k)
def classes (rows : List (Row L)) : List Nat := chain rows rows.length
/-- one call: the word, the next state -/
def stp (rows : List (Row L)) (s : Nat) (b : Bool) : Option (L × Nat) := rows[s]?.map fun r => if b = true then (r.2.2.2, r.2.2.1) else (r.2.1, r.1)
/-- the words of a row of calls -/
def out (rows : List (Row L)) : Nat → List Bool → List (Option L)
  | _, [] => []
  | s, b :: w => match stp rows s b with
    | none => [none]
    | some (l, t) => some l :: out rows t w
variable {rows : List (Row L)}
theorem chain_len (k : Nat) : (chain rows k).length = rows.length := by
  cases k with
  | zero => unfold chain; rw [numb_len, List.length_map]
  | succ k => unfold chain split; rw [numb_len, List.length_map, List.length_zipIdx]
theorem out_cons {s : Nat} {b : Bool} {w : List Bool} {r : Row L} (h : rows[s]? = some r) : out rows s (b :: w) = some (if b = true then r.2.2.2 else r.2.1) :: out rows (if b = true then r.2.2.1 else r.1) w := by
  cases b <;> simp [out, stp, h]
/-- equal up to words of length k -/
def Eqv (rows : List (Row L)) (k i j : Nat) : Prop := ∀ w : List Bool, w.length ≤ k → out rows i w = out rows j w
theorem zip_get {i : Nat} {r : Row L} (h : rows[i]? = some r) : (rows.zipIdx)[i]? = some (r, i) := by
  rw [List.getElem?_zipIdx, h]
  simp
theorem eqv_step {k i j : Nat} {r r' : Row L} (hi : rows[i]? = some r) (hj : rows[j]? = some r') :
    Eqv rows (k + 1) i j ↔ (key1 r = key1 r' ∧ Eqv rows k r.1 r'.1 ∧ Eqv rows k r.2.2.1 r'.2.2.1) := by
  constructor
  · intro h
    have h0 := h [false] (by simp)
    have h1 := h [true] (by simp)
    rw [out_cons hi, out_cons hj] at h0 h1
    have e0 : r.2.1 = r'.2.1 := by
      have := (List.cons.inj h0).1
      simpa using this
    have e1 : r.2.2.2 = r'.2.2.2 := by
      have := (List.cons.inj h1).1
      simpa using this
    refine ⟨by unfold key1; rw [e0, e1], fun w hw => ?_, fun w hw => ?_⟩
    · have h2 := h (false :: w) (by rw [List.length_cons]; omega)
      rw [out_cons hi, out_cons hj] at h2
      simpa using (List.cons.inj h2).2
    · have h2 := h (true :: w) (by rw [List.length_cons]; omega)
      rw [out_cons hi, out_cons hj] at h2
      simpa using (List.cons.inj h2).2
  · rintro ⟨hk, h0, h1⟩ w hw
    have e0 : r.2.1 = r'.2.1 := (Prod.mk.inj hk).1
    have e1 : r.2.2.2 = r'.2.2.2 := (Prod.mk.inj hk).2
    cases w with
    | nil => rfl
    | cons b w =>
      rw [List.length_cons] at hw
      rw [out_cons hi, out_cons hj]
      cases b
      · simp only [Bool.false_eq_true, if_false]
        rw [e0, h0 w (by omega)]
      · simp only [if_true]
        rw [e1, h1 w (by omega)]
theorem eqv_mono {k m i j : Nat} (h : Eqv rows k i j) (hm : m ≤ k) : Eqv rows m i j := fun w hw => h w (Nat.le_trans hw hm)
theorem chain_iff (ok : TOk rows) : ∀ (k : Nat) {i j : Nat}, i < rows.length → j < rows.length → (at_ (chain rows k) i = at_ (chain rows k) j ↔ Eqv rows (k + 1) i j)
  | 0, i, j, hi, hj => by
    have ei : rows[i]? = some rows[i] := List.getElem?_eq_getElem hi
    have ej : rows[j]? = some rows[j] := List.getElem?_eq_getElem hj
    rw [eqv_step ei ej]
    have := numb_iff (ks := rows.map key1) (i := i) (j := j) (a := key1 rows[i]) (b := key1 rows[j]) (by rw [List.getElem?_map, ei]; rfl) (by rw [List.getElem?_map, ej]; rfl)
    unfold at_ chain
    rw [this]
    refine ⟨fun h => ⟨h, fun w hw => ?_, fun w hw => ?_⟩, fun h => h.1⟩
    · have : w = [] := List.length_eq_zero_iff.mp (by omega)
      subst this; rfl
    · have : w = [] := List.length_eq_zero_iff.mp (by omega)
      subst this; rfl
  | k + 1, i, j, hi, hj => by
    have ei : rows[i]? = some rows[i] := List.getElem?_eq_getElem hi
    have ej : rows[j]? = some rows[j] := List.getElem?_eq_getElem hj
    have oi := ok _ (List.getElem_mem hi)
    have oj := ok _ (List.getElem_mem hj)
    have := numb_iff (ks := rows.zipIdx.map (key2 (chain rows k))) (i := i) (j := j) (a := key2 (chain rows k) (rows[i], i)) (b := key2 (chain rows k) (rows[j], j)) (by rw [List.getElem?_map, zip_get ei]; rfl) (by rw [List.getElem?_map, zip_get ej]; rfl)
    have e1 := chain_iff ok k hi hj
    have e2 := chain_iff ok k oi.1 oj.1
    have e3 := chain_iff ok k oi.2 oj.2
    have e : (at_ (chain rows (k + 1)) i = at_ (chain rows (k + 1)) j) ↔ key2 (chain rows k) (rows[i], i) = key2 (chain rows k) (rows[j], j) := this
    rw [e, eqv_step ei ej]
    unfold key2
    simp only [Prod.mk.injEq]
    rw [e1, e2, e3]
    constructor
    · rintro ⟨h1, h2, h3⟩
      exact ⟨((eqv_step ei ej).mp h1).1, h2, h3⟩
    · rintro ⟨h1, h2, h3⟩
      exact ⟨(eqv_step ei ej).mpr ⟨h1, eqv_mono h2 (by omega), eqv_mono h3 (by omega)⟩, h2, h3⟩
/-! ### the chain comes to rest -/
theorem getD_of {cs : List Nat} {i x : Nat} (h : cs[i]? = some x) : at_ cs i = x := by unfold at_; rw [List.getD_eq_getElem?_getD, h]; rfl
theorem get_of_lt {cs : List Nat} {i : Nat} (h : i < cs.length) : cs[i]? = some (at_ cs i) := by
  have : cs[i]? = some cs[i] := List.getElem?_eq_getElem h
  rw [this, getD_of this]
/-- numbers by the pattern alone -/
theorem numb_self {κ : Type} [DecidableEq κ] (ks : List κ) : numb (numb ks) = numb ks := by
  refine numb_congr (by rw [numb_len]) fun i j a b c d h1 h2 h3 h4 => ?_
  have := numb_iff h3 h4
  have e1 := getD_of h1
  have e2 := getD_of h2
  unfold at_ at e1 e2
  rw [e1, e2] at this
  exact this
theorem chain_numb (k : Nat) : numb (chain rows k) = chain rows k := by
  cases k with
  | zero => exact numb_self _
  | succ k => exact numb_self _
/-- where the chain rests it rests for ever -/
theorem chain_rest {k : Nat} (h : chain rows k = chain rows (k + 1)) : ∀ m, chain rows (k + m) = chain rows k
  | 0 => rfl
  | m + 1 => by
    show split rows (chain rows (k + m)) = _
    rw [chain_rest h m]
    exact h.symm
/-- the pattern of the next one is finer -/
theorem chain_fine (ok : TOk rows) {k i j : Nat} (hi : i < rows.length) (hj : j < rows.length) (h : at_ (chain rows (k + 1)) i = at_ (chain rows (k + 1)) j) : at_ (chain rows k) i = at_ (chain rows k) j :=
  (chain_iff ok k hi hj).mpr (eqv_mono ((chain_iff ok (k + 1) hi hj).mp h) (by omega))
end
end LF

namespace LF
theorem count_lt {α : Type} {p q : α → Bool} : ∀ {l : List α}, (∀ x ∈ l, p x = true → q x = true) → (∃ x ∈ l, q x = true ∧ ¬ p x = true) → l.countP p < l.countP q
  | [], _, ⟨x, hx, _⟩ => by cases hx
  | a :: l, h, ⟨x, hx, hq, hp⟩ => by
    have h' : ∀ x ∈ l, p x = true → q x = true := fun y hy => h y (List.mem_cons_of_mem _ hy)
    have le : l.countP p ≤ l.countP q := List.countP_mono_left h'
    rw [List.countP_cons, List.countP_cons]
    rcases List.mem_cons.mp hx with rfl | hx
    · rw [if_pos hq, if_neg hp]; omega
    · have lt := count_lt h' ⟨x, hx, hq, hp⟩
      by_cases pa : p a = true
      · rw [if_pos pa, if_pos (h a List.mem_cons_self pa)]; omega
      · rw [if_neg pa]; omega
def pairs (n : Nat) : List (Nat × Nat) := (List.range n).flatMap fun i => (List.range n).map fun j => (i, j)
theorem mem_pairs {n i j : Nat} : (i, j) ∈ pairs n ↔ i < n ∧ j < n := by
  unfold pairs
  simp [List.mem_flatMap]
theorem sum_const : ∀ (l : List Nat) (n : Nat), (l.map fun _ => n).sum = l.length * n
  | [], n => by simp
  | a :: l, n => by rw [List.map_cons, List.sum_cons, sum_const l n, List.length_cons, Nat.succ_mul]; omega
theorem pairs_len (n : Nat) : (pairs n).length = n * n := by
  unfold pairs
  simp [List.length_flatMap]
  rw [sum_const, List.length_range]
section
variable {L : Type} [DecidableEq L] {rows : List (Row L)}
def same_ (cs : List Nat) (p : Nat × Nat) : Bool := decide (at_ cs p.1 = at_ cs p.2)
def mass (rows : List (Row L)) (k : Nat) : Nat := (pairs rows.length).countP (same_ (chain rows k))
theorem mass_le (k : Nat) : mass rows k ≤ rows.length * rows.length := by
  have := List.countP_le_length (p := same_ (chain rows k)) (l := pairs rows.length)
  rw [pairs_len] at this
  exact this
theorem chain_eq {a b : Nat} (h : ∀ i j, i < rows.length → j < rows.length → (at_ (chain rows a) i = at_ (chain rows a) j ↔ at_ (chain rows b) i = at_ (chain rows b) j)) : chain rows a = chain rows b := by
  rw [← chain_numb a, ← chain_numb b]
  refine numb_congr (by rw [chain_len, chain_len]) fun i j x y u v h1 h2 h3 h4 => ?_
  have hi : i < rows.length := by rw [← chain_len (rows := rows) a]; exact (List.getElem?_eq_some_iff.mp h1).1
  have hj : j < rows.length := by rw [← chain_len (rows := rows) a]; exact (List.getElem?_eq_some_iff.mp h2).1
  have := h i j hi hj
  rw [getD_of h1, getD_of h2, getD_of h3, getD_of h4] at this
  exact this
theorem mass_lt (ok : TOk rows) {k : Nat} (h : ¬ chain rows k = chain rows (k + 1)) : mass rows (k + 1) < mass rows k := by
  have : ∃ i j, i < rows.length ∧ j < rows.length ∧ at_ (chain rows k) i = at_ (chain rows k) j ∧ ¬ at_ (chain rows (k + 1)) i = at_ (chain rows (k + 1)) j := by
    refine Classical.byContradiction fun n => h (chain_eq fun i j hi hj => ⟨fun e => ?_, chain_fine ok hi hj⟩)
    exact Classical.byContradiction fun ne => n ⟨i, j, hi, hj, e, ne⟩
  obtain ⟨i, j, hi, hj, e, ne⟩ := this
  unfold mass
  refine count_lt (fun p hp => ?_) ⟨(i, j), mem_pairs.mpr ⟨hi, hj⟩, decide_eq_true e, fun z => ne (of_decide_eq_true z)⟩
  obtain ⟨a, b⟩ := p
  have hab := mem_pairs.mp hp
  intro z
  exact decide_eq_true (chain_fine ok hab.1 hab.2 (of_decide_eq_true z))
theorem mass_low (ok : TOk rows) : ∀ k, (∀ j < k, ¬ chain rows j = chain rows (j + 1)) → mass rows k + k ≤ rows.length * rows.length
  | 0, _ => mass_le 0
  | k + 1, h => by
    have h1 := mass_low ok k fun j hj => h j (by omega)
    have h2 := mass_lt ok (h k (by omega))
    omega
def cls (rows : List (Row L)) : List Nat := chain rows (rows.length * rows.length)
/-- where it rests first, that is the classes -/
theorem cls_of (ok : TOk rows) {k : Nat} (hk : ∀ j < k, ¬ chain rows j = chain rows (j + 1)) (h : chain rows k = chain rows (k + 1)) : cls rows = chain rows k := by
  have := mass_low ok k hk
  have e : rows.length * rows.length = k + (rows.length * rows.length - k) := by omega
  unfold cls
  rw [e]
  exact chain_rest h _
theorem rests (ok : TOk rows) : ∃ k ≤ rows.length * rows.length, (∀ j < k, ¬ chain rows j = chain rows (j + 1)) ∧ chain rows k = chain rows (k + 1) := by
  have go : ∀ m k, m + k = rows.length * rows.length → (∀ j < k, ¬ chain rows j = chain rows (j + 1)) → ∃ k ≤ rows.length * rows.length, (∀ j < k, ¬ chain rows j = chain rows (j + 1)) ∧ chain rows k = chain rows (k + 1) := by
    intro m
    induction m with
    | zero =>
      intro k hm hk
      refine ⟨k, by omega, hk, Classical.byContradiction fun ne => ?_⟩
      have h1 := mass_low ok (k + 1) fun j hj => by
        rcases Nat.lt_or_ge j k with h | h
        · exact hk j h
        · have : j = k := by omega
          rw [this]; exact ne
      omega
    | succ m ih =>
      intro k hm hk
      by_cases e : chain rows k = chain rows (k + 1)
      · exact ⟨k, by omega, hk, e⟩
      · refine ih (k + 1) (by omega) fun j hj => ?_
        rcases Nat.lt_or_ge j k with h | h
        · exact hk j h
        · have : j = k := by omega
          rw [this]; exact e
  exact go _ 0 rfl fun j hj => by omega
/-- no calls tell the states apart -/
def Alk (rows : List (Row L)) (i : Nat) (rows' : List (Row L)) (j : Nat) : Prop := ∀ w, out rows i w = out rows' j w
theorem cls_len : (cls rows).length = rows.length := chain_len _
theorem cls_iff (ok : TOk rows) {i j : Nat} (hi : i < rows.length) (hj : j < rows.length) : at_ (cls rows) i = at_ (cls rows) j ↔ Alk rows i rows j := by
  obtain ⟨k, _, hk, hr⟩ := rests ok
  rw [cls_of ok hk hr]
  constructor
  · intro e w
    have := (chain_iff ok (k + w.length) hi hj).mp (by rw [chain_rest hr]; exact e)
    exact this w (by omega)
  · intro h
    exact (chain_iff ok k hi hj).mpr fun w _ => h w
theorem cls_numb : numb (cls rows) = cls rows := chain_numb _
end
end LF

namespace LF
section
variable {L : Type} [DecidableEq L] {rows : List (Row L)}
def renum (f : Nat → Nat) (r : Row L) : Row L := (f r.1, r.2.1, f r.2.2.1, r.2.2.2)
def mstep (cs : List Nat) (acc : List (Row L)) (x : Row L × Nat) : List (Row L) := if at_ cs x.2 = acc.length then acc ++ [renum (at_ cs) x.1] else acc
def merged (rows : List (Row L)) (cs : List Nat) : List (Row L) := rows.zipIdx.foldl (mstep cs) []
theorem take_next {α : Type} {l : List α} {i : Nat} {x : α} (h : l[i]? = some x) : l.take (i + 1) = l.take i ++ [x] := by
  rw [List.take_add_one, h]
  rfl
theorem merged_pre {cs : List Nat} (hc : numb cs = cs) (hl : cs.length = rows.length) : ∀ i ≤ rows.length, ((rows.zipIdx.take i).foldl (mstep cs) []).length = (uniq (cs.take i)).length ∧
    ∀ j < i, ∃ j0 r0, rows[j0]? = some r0 ∧ at_ cs j0 = at_ cs j ∧ ((rows.zipIdx.take i).foldl (mstep cs) [])[at_ cs j]? = some (renum (at_ cs) r0)
  | 0, _ => ⟨rfl, fun j hj => absurd hj (Nat.not_lt_zero _)⟩
  | i + 1, hi => by
    obtain ⟨h1, h2⟩ := merged_pre hc hl i (by omega)
    have hir : i < rows.length := by omega
    have er : rows[i]? = some rows[i] := List.getElem?_eq_getElem hir
    have ec : cs[i]? = some (at_ cs i) := get_of_lt (by rw [hl]; exact hir)
    rw [take_next (zip_get er), List.foldl_append, take_next ec, uniq_snoc]
    show (mstep cs _ _).length = _ ∧ _
    have en : at_ cs i = ix (uniq cs) (at_ cs i) := by
      have := numb_get ec
      rw [hc, ec] at this
      exact Option.some.inj this
    generalize hacc : (rows.zipIdx.take i).foldl (mstep cs) [] = acc at h1 h2
    obtain ⟨t, ht⟩ := uniq_pre (cs.take (i + 1)) (cs.drop (i + 1))
    rw [List.take_append_drop, take_next ec, uniq_snoc] at ht
    by_cases hm : at_ cs i ∈ uniq (cs.take i)
    · have hp : push (uniq (cs.take i)) (at_ cs i) = uniq (cs.take i) := by unfold push; rw [if_pos hm]
      rw [hp] at ht ⊢
      have hlt : at_ cs i < acc.length := by
        rw [en, ht, ix_app hm, h1]
        exact ix_lt hm
      have hms : mstep cs acc (rows[i], i) = acc := by
        unfold mstep
        rw [if_neg (by show ¬ at_ cs i = acc.length; omega)]
      show (mstep cs acc (rows[i], i)).length = _ ∧ ∀ j < i + 1, ∃ j0 r0, rows[j0]? = some r0 ∧ at_ cs j0 = at_ cs j ∧ (mstep cs acc (rows[i], i))[at_ cs j]? = some (renum (at_ cs) r0)
      rw [hms]
      refine ⟨h1, fun j hj => ?_⟩
      rcases Nat.lt_or_ge j i with h | h
      · exact h2 j h
      · have : j = i := by omega
        subst this
        obtain ⟨j1, hj1⟩ := List.getElem?_of_mem (uniq_mem.mp hm)
        have hj1' : j1 < j := by
          have := (List.getElem?_eq_some_iff.mp hj1).1
          rw [List.length_take] at this
          omega
        have e1 : at_ cs j1 = at_ cs j := by
          rw [List.getElem?_take, if_pos hj1'] at hj1
          exact getD_of hj1
        obtain ⟨j0, r0, a, b, c⟩ := h2 j1 hj1'
        exact ⟨j0, r0, a, b.trans e1, by rw [← e1]; exact c⟩
    · have hp : push (uniq (cs.take i)) (at_ cs i) = uniq (cs.take i) ++ [at_ cs i] := by unfold push; rw [if_neg hm]
      rw [hp] at ht ⊢
      have heq : at_ cs i = acc.length := by
        have h3 : uniq cs = uniq (cs.take i) ++ at_ cs i :: t := by rw [ht, List.append_assoc]; rfl
        rw [h1]
        conv => lhs; rw [en, h3]
        exact ix_new hm t
      have hms : mstep cs acc (rows[i], i) = acc ++ [renum (at_ cs) rows[i]] := by
        unfold mstep
        rw [if_pos heq]
      show (mstep cs acc (rows[i], i)).length = _ ∧ ∀ j < i + 1, ∃ j0 r0, rows[j0]? = some r0 ∧ at_ cs j0 = at_ cs j ∧ (mstep cs acc (rows[i], i))[at_ cs j]? = some (renum (at_ cs) r0)
      rw [hms]
      refine ⟨by rw [List.length_append, List.length_append, h1]; rfl, fun j hj => ?_⟩
      rcases Nat.lt_or_ge j i with h | h
      · obtain ⟨j0, r0, a, b, c⟩ := h2 j h
        refine ⟨j0, r0, a, b, ?_⟩
        rw [List.getElem?_append_left (List.getElem?_eq_some_iff.mp c).1]
        exact c
      · have : j = i := by omega
        subst this
        exact ⟨j, rows[j], er, rfl, by rw [heq, List.getElem?_append_right (Nat.le_refl _), Nat.sub_self]; rfl⟩
abbrev mg (rows : List (Row L)) : List (Row L) := merged rows (cls rows)
theorem mg_get {j : Nat} (hj : j < rows.length) : ∃ j0 r0, rows[j0]? = some r0 ∧ at_ (cls rows) j0 = at_ (cls rows) j ∧ (mg rows)[at_ (cls rows) j]? = some (renum (at_ (cls rows)) r0) := by
  obtain ⟨_, h⟩ := merged_pre (rows := rows) (cs := cls rows) cls_numb cls_len rows.length (Nat.le_refl _)
  have e : rows.zipIdx.take rows.length = rows.zipIdx := List.take_of_length_le (by rw [List.length_zipIdx]; exact Nat.le_refl _)
  rw [e] at h
  exact h j hj
theorem mg_len : (mg rows).length = (uniq (cls rows)).length := by
  obtain ⟨h, _⟩ := merged_pre (rows := rows) (cs := cls rows) cls_numb cls_len rows.length (Nat.le_refl _)
  have e : rows.zipIdx.take rows.length = rows.zipIdx := List.take_of_length_le (by rw [List.length_zipIdx]; exact Nat.le_refl _)
  rw [e, List.take_of_length_le (by rw [cls_len]; exact Nat.le_refl _)] at h
  exact h
theorem mg_le : (mg rows).length ≤ rows.length := by
  rw [mg_len, ← cls_len (rows := rows)]
  exact uniq_len _
theorem cls_lt {j : Nat} (hj : j < rows.length) : at_ (cls rows) j < (mg rows).length := by
  obtain ⟨_, _, _, _, h⟩ := mg_get hj
  exact (List.getElem?_eq_some_iff.mp h).1
/-- each state of the merged table is the class of one -/
theorem mg_onto {k : Nat} (hk : k < (mg rows).length) : ∃ j < rows.length, at_ (cls rows) j = k := by
  rw [mg_len] at hk
  have e : (uniq (cls rows))[k]? = some (uniq (cls rows))[k] := List.getElem?_eq_getElem hk
  generalize (uniq (cls rows))[k] = u at e
  obtain ⟨j, hj⟩ := List.getElem?_of_mem (uniq_mem.mp (List.mem_of_getElem? e))
  refine ⟨j, by rw [← cls_len (rows := rows)]; exact (List.getElem?_eq_some_iff.mp hj).1, ?_⟩
  have h1 := numb_get hj
  rw [cls_numb, ix_get uniq_nodup e] at h1
  exact getD_of h1
theorem mg_ok (ok : TOk rows) : TOk (mg rows) := by
  intro r hr
  obtain ⟨k, hk⟩ := List.getElem?_of_mem hr
  obtain ⟨j, hj, e⟩ := mg_onto (List.getElem?_eq_some_iff.mp hk).1
  obtain ⟨j0, r0, h1, h2, h3⟩ := mg_get hj
  rw [e, hk] at h3
  have : r = renum (at_ (cls rows)) r0 := Option.some.inj h3
  rw [this]
  have o := ok r0 (List.mem_of_getElem? h1)
  exact ⟨cls_lt o.1, cls_lt o.2⟩
theorem alk_step (ok : TOk rows) {i j : Nat} {r r' : Row L} (hi : rows[i]? = some r) (hj : rows[j]? = some r') (h : Alk rows i rows j) : key1 r = key1 r' ∧ Alk rows r.1 rows r'.1 ∧ Alk rows r.2.2.1 rows r'.2.2.1 := by
  have h1 := (eqv_step (k := 0) hi hj).mp fun w _ => h w
  refine ⟨h1.1, fun w => ?_, fun w => ?_⟩
  · exact ((eqv_step (k := w.length) hi hj).mp fun w _ => h w).2.1 w (Nat.le_refl _)
  · exact ((eqv_step (k := w.length) hi hj).mp fun w _ => h w).2.2 w (Nat.le_refl _)
theorem mg_out (ok : TOk rows) : ∀ (w : List Bool) {j : Nat}, j < rows.length → out (mg rows) (at_ (cls rows) j) w = out rows j w
  | [], j, _ => by simp [out]
  | b :: w, j, hj => by
    obtain ⟨j0, r0, h1, h2, h3⟩ := mg_get hj
    have ej : rows[j]? = some rows[j] := List.getElem?_eq_getElem hj
    have hj0 : j0 < rows.length := (List.getElem?_eq_some_iff.mp h1).1
    have al := (cls_iff ok hj0 hj).mp h2
    obtain ⟨k1, k2, k3⟩ := alk_step ok h1 ej al
    have e0 : r0.2.1 = rows[j].2.1 := (Prod.mk.inj k1).1
    have e1 : r0.2.2.2 = rows[j].2.2.2 := (Prod.mk.inj k1).2
    have o0 := ok r0 (List.mem_of_getElem? h1)
    rw [out_cons h3, out_cons ej]
    cases b
    · show some r0.2.1 :: out (mg rows) (at_ (cls rows) r0.1) w = some rows[j].2.1 :: out rows rows[j].1 w
      rw [e0, mg_out ok w o0.1, k2 w]
    · show some r0.2.2.2 :: out (mg rows) (at_ (cls rows) r0.2.2.1) w = some rows[j].2.2.2 :: out rows rows[j].2.2.1 w
      rw [e1, mg_out ok w o0.2, k3 w]
/-- no two states are alike -/
def Apart (rows : List (Row L)) : Prop := ∀ i j, i < rows.length → j < rows.length → Alk rows i rows j → i = j
theorem mg_apart (ok : TOk rows) : Apart (mg rows) := by
  intro i j hi hj h
  obtain ⟨i', hi', rfl⟩ := mg_onto hi
  obtain ⟨j', hj', rfl⟩ := mg_onto hj
  refine (cls_iff ok hi' hj').mpr fun w => ?_
  have := h w
  rw [mg_out ok w hi', mg_out ok w hj'] at this
  exact this
end
end LF

namespace LF
/-- two lists, place by place -/
inductive F2 {α β : Type} (R : α → β → Prop) : List α → List β → Prop
  | nil : F2 R [] []
  | cons {a : α} {b : β} {l : List α} {m : List β} : R a b → F2 R l m → F2 R (a :: l) (b :: m)
section
variable {α β : Type} {R : α → β → Prop}
theorem F2.append : ∀ {l l' : List α} {m m' : List β}, F2 R l m → F2 R l' m' → F2 R (l ++ l') (m ++ m')
  | _, _, _, _, .nil, h => h
  | _, _, _, _, .cons r t, h => .cons r (t.append h)
theorem F2.len : ∀ {l : List α} {m : List β}, F2 R l m → l.length = m.length
  | _, _, .nil => rfl
  | _, _, .cons _ t => by rw [List.length_cons, List.length_cons, t.len]
theorem F2.get : ∀ {l : List α} {m : List β} {i : Nat} {a : α} {b : β}, F2 R l m → l[i]? = some a → m[i]? = some b → R a b
  | _, _, _, _, _, .nil, h, _ => by simp at h
  | _, _, 0, _, _, .cons r _, h1, h2 => by
    simp at h1 h2
    subst h1 h2
    exact r
  | _, _, i + 1, _, _, .cons _ t, h1, h2 => t.get (i := i) (by simpa using h1) (by simpa using h2)
theorem F2.left : ∀ {l : List α} {m : List β} {a : α}, F2 R l m → a ∈ l → ∃ b ∈ m, R a b
  | _, _, _, .nil, h => by cases h
  | _, _, _, .cons (b := b) r t, h => by
    rcases List.mem_cons.mp h with rfl | h
    · exact ⟨b, List.mem_cons_self, r⟩
    · obtain ⟨c, hc, q⟩ := t.left h
      exact ⟨c, List.mem_cons_of_mem _ hc, q⟩
theorem F2.right : ∀ {l : List α} {m : List β} {b : β}, F2 R l m → b ∈ m → ∃ a ∈ l, R a b
  | _, _, _, .nil, h => by cases h
  | _, _, _, .cons (a := a) r t, h => by
    rcases List.mem_cons.mp h with rfl | h
    · exact ⟨a, List.mem_cons_self, r⟩
    · obtain ⟨c, hc, q⟩ := t.right h
      exact ⟨c, List.mem_cons_of_mem _ hc, q⟩
theorem F2.of {l : List α} {m : List β} (hl : l.length = m.length) (h : ∀ (i : Nat) (a : α) (b : β), l[i]? = some a → m[i]? = some b → R a b) : F2 R l m := by
  induction l generalizing m with
  | nil =>
    cases m with
    | nil => exact .nil
    | cons _ _ => cases hl
  | cons a l ih =>
    cases m with
    | nil => cases hl
    | cons b m => exact .cons (h 0 a b rfl rfl) (ih (by simpa using hl) fun i x y h1 h2 => h (i + 1) x y (by simpa using h1) (by simpa using h2))
end
/-- different numbers below n are at most n -/
theorem few : ∀ (n : Nat) {l : List Nat}, l.Nodup → (∀ x ∈ l, x < n) → l.length ≤ n
  | 0, l, _, h => by
    cases l with
    | nil => exact Nat.le_refl _
    | cons a l => exact absurd (h a List.mem_cons_self) (Nat.not_lt_zero _)
  | n + 1, l, hn, h => by
    have h1 := few n (l := l.erase n) (hn.erase n) fun x hx => by
      have hm := List.mem_of_mem_erase hx
      have hlt := h x hm
      have ne : x ≠ n := fun e => by
        rw [e] at hx
        exact (List.Nodup.not_mem_erase hn) hx
      omega
    by_cases hm : n ∈ l
    · rw [List.length_erase_of_mem hm] at h1
      omega
    · rw [List.erase_of_not_mem hm] at h1
      omega
section
variable {L : Type} [DecidableEq L] {rows : List (Row L)}
/-- the visit: what waits, what has been visited -/
def visit (rows : List (Row L)) : Nat → List Nat → List Nat → List Nat
  | 0, _, s => s
  | _ + 1, [], s => s
  | f + 1, x :: w, s => if x ∈ s then visit rows f w s else match rows[x]? with
    | none => s
    | some r => visit rows f (w ++ [r.1, r.2.2.1]) (s ++ [x])
structure VOk (rows : List (Row L)) (w s : List Nat) : Prop where
  ok : TOk rows
  hw : ∀ x ∈ w, x < rows.length
  hs : ∀ x ∈ s, x < rows.length
  nd : s.Nodup
theorem visit_old {f x : Nat} {w s : List Nat} (h : x ∈ s) : visit rows (f + 1) (x :: w) s = visit rows f w s := by
  show (if x ∈ s then _ else _) = _
  rw [if_pos h]
theorem visit_new {f x : Nat} {w s : List Nat} {r : Row L} (h : ¬ x ∈ s) (hr : rows[x]? = some r) : visit rows (f + 1) (x :: w) s = visit rows f (w ++ [r.1, r.2.2.1]) (s ++ [x]) := by
  show (if x ∈ s then _ else match rows[x]? with | none => s | some r => visit rows f (w ++ [r.1, r.2.2.1]) (s ++ [x])) = _
  rw [if_neg h, hr]
def need (rows : List (Row L)) (w s : List Nat) : Nat := w.length + 2 * (rows.length - s.length)
theorem VOk.old {x : Nat} {w s : List Nat} (v : VOk rows (x :: w) s) : VOk rows w s := ⟨v.ok, fun y hy => v.hw y (List.mem_cons_of_mem _ hy), v.hs, v.nd⟩
theorem VOk.new {x : Nat} {w s : List Nat} {r : Row L} (v : VOk rows (x :: w) s) (h : ¬ x ∈ s) (hr : rows[x]? = some r) : VOk rows (w ++ [r.1, r.2.2.1]) (s ++ [x]) := by
  have o := v.ok r (List.mem_of_getElem? hr)
  refine ⟨v.ok, fun y hy => ?_, fun y hy => ?_, nodup_snoc v.nd h⟩
  · rcases List.mem_append.mp hy with hy | hy
    · exact v.hw y (List.mem_cons_of_mem _ hy)
    · simp at hy
      rcases hy with rfl | rfl
      · exact o.1
      · exact o.2
  · rcases List.mem_append.mp hy with hy | hy
    · exact v.hs y hy
    · rw [List.mem_singleton.mp hy]
      exact v.hw x List.mem_cons_self
theorem VOk.room {x : Nat} {w s : List Nat} (v : VOk rows (x :: w) s) (h : ¬ x ∈ s) : s.length < rows.length := by
  have := few rows.length (nodup_snoc v.nd h) fun y hy => by
    rcases List.mem_append.mp hy with hy | hy
    · exact v.hs y hy
    · rw [List.mem_singleton.mp hy]
      exact v.hw x List.mem_cons_self
  rw [List.length_append] at this
  exact this
theorem need_new {x : Nat} {w s : List Nat} {r : Row L} (v : VOk rows (x :: w) s) (h : ¬ x ∈ s) : need rows (w ++ [r.1, r.2.2.1]) (s ++ [x]) + 1 = need rows (x :: w) s := by
  have := v.room h
  unfold need
  simp
  omega
/-- more fuel changes nothing -/
theorem visit_more : ∀ (f : Nat) {w s : List Nat}, VOk rows w s → need rows w s ≤ f → visit rows (f + 1) w s = visit rows f w s
  | 0, w, s, v, h => by
    have : w = [] := List.length_eq_zero_iff.mp (by unfold need at h; omega)
    subst this
    rfl
  | f + 1, [], s, v, h => rfl
  | f + 1, x :: w, s, v, h => by
    by_cases hx : x ∈ s
    · rw [visit_old hx, visit_old hx]
      refine visit_more f v.old ?_
      unfold need at h ⊢
      rw [List.length_cons] at h
      omega
    · have hlt := v.hw x List.mem_cons_self
      have hr : rows[x]? = some rows[x] := List.getElem?_eq_getElem hlt
      rw [visit_new hx hr, visit_new hx hr]
      refine visit_more f (v.new hx hr) ?_
      have := need_new (r := rows[x]) v hx
      omega
theorem visit_fuel {f : Nat} {w s : List Nat} (v : VOk rows w s) (h : need rows w s ≤ f) : ∀ k, visit rows (f + k) w s = visit rows f w s
  | 0 => rfl
  | k + 1 => by
    rw [← Nat.add_assoc, visit_more (f + k) v (by omega)]
    exact visit_fuel v h k
/-- what a visit comes to -/
structure VEnd (rows : List (Row L)) (w s o : List Nat) : Prop where
  pre : ∃ t, o = s ++ t
  nd : o.Nodup
  lt : ∀ x ∈ o, x < rows.length
  all : ∀ x ∈ w, x ∈ o
  closed : (∀ x ∈ s, ∀ r, rows[x]? = some r → (r.1 ∈ s ∨ r.1 ∈ w) ∧ (r.2.2.1 ∈ s ∨ r.2.2.1 ∈ w)) → ∀ x ∈ o, ∀ r, rows[x]? = some r → r.1 ∈ o ∧ r.2.2.1 ∈ o
theorem visit_end : ∀ (f : Nat) {w s : List Nat}, VOk rows w s → need rows w s ≤ f → VEnd rows w s (visit rows f w s)
  | 0, w, s, v, h => by
    have : w = [] := List.length_eq_zero_iff.mp (by unfold need at h; omega)
    subst this
    refine ⟨⟨[], by simp [visit]⟩, v.nd, v.hs, fun x hx => (by cases hx), fun c x hx r hr => ?_⟩
    have := c x hx r hr
    exact ⟨this.1.elim id fun z => (by cases z), this.2.elim id fun z => (by cases z)⟩
  | f + 1, [], s, v, h => by
    refine ⟨⟨[], by simp [visit]⟩, v.nd, v.hs, fun x hx => (by cases hx), fun c x hx r hr => ?_⟩
    have := c x hx r hr
    exact ⟨this.1.elim id fun z => (by cases z), this.2.elim id fun z => (by cases z)⟩
  | f + 1, x :: w, s, v, h => by
    by_cases hx : x ∈ s
    · rw [visit_old hx]
      have e := visit_end f v.old (by unfold need at h ⊢; rw [List.length_cons] at h; omega)
      obtain ⟨t, ht⟩ := e.pre
      refine ⟨e.pre, e.nd, e.lt, fun y hy => ?_, fun c => e.closed fun y hy r hr => ?_⟩
      · rcases List.mem_cons.mp hy with rfl | hy
        · rw [ht]; exact List.mem_append_left _ hx
        · exact e.all y hy
      · have c1 := c y hy r hr
        refine ⟨c1.1.elim .inl fun z => ?_, c1.2.elim .inl fun z => ?_⟩
        · exact (List.mem_cons.mp z).elim (fun e => .inl (e ▸ hx)) .inr
        · exact (List.mem_cons.mp z).elim (fun e => .inl (e ▸ hx)) .inr
    · have hlt := v.hw x List.mem_cons_self
      have hr : rows[x]? = some rows[x] := List.getElem?_eq_getElem hlt
      rw [visit_new hx hr]
      have e := visit_end f (v.new hx hr) (by have := need_new (r := rows[x]) v hx; omega)
      obtain ⟨t, ht⟩ := e.pre
      refine ⟨⟨[x] ++ t, by rw [ht, List.append_assoc]⟩, e.nd, e.lt, fun y hy => ?_, fun c => e.closed fun y hy r hr' => ?_⟩
      · rcases List.mem_cons.mp hy with rfl | hy
        · rw [ht]; exact List.mem_append_left _ (List.mem_append_right _ (List.mem_singleton.mpr rfl))
        · exact e.all y (List.mem_append_left _ hy)
      · rcases List.mem_append.mp hy with hy | hy
        · have c1 := c y hy r hr'
          have go : ∀ z, z ∈ s ∨ z ∈ x :: w → z ∈ s ++ [x] ∨ z ∈ w ++ [rows[x].1, rows[x].2.2.1] := fun z hz => by
            rcases hz with hz | hz
            · exact .inl (List.mem_append_left _ hz)
            · rcases List.mem_cons.mp hz with rfl | hz
              · exact .inl (List.mem_append_right _ (List.mem_singleton.mpr rfl))
              · exact .inr (List.mem_append_left _ hz)
          exact ⟨go _ c1.1, go _ c1.2⟩
        · have : y = x := List.mem_singleton.mp hy
          subst this
          rw [hr] at hr'
          cases hr'
          exact ⟨.inr (List.mem_append_right _ (by simp)), .inr (List.mem_append_right _ (by simp))⟩
end
end LF

namespace LF
section
variable {L : Type} [DecidableEq L] {A B : List (Row L)}
/-- states of two tables that go alike -/
def RR (A B : List (Row L)) (a b : Nat) : Prop := a < A.length ∧ b < B.length ∧ Alk A a B b
theorem rr_step (oA : TOk A) (oB : TOk B) {a b : Nat} {r r' : Row L} (h : RR A B a b) (hr : A[a]? = some r) (hr' : B[b]? = some r') : key1 r = key1 r' ∧ RR A B r.1 r'.1 ∧ RR A B r.2.2.1 r'.2.2.1 := by
  obtain ⟨ha, hb, al⟩ := h
  have pa := oA r (List.mem_of_getElem? hr)
  have pb := oB r' (List.mem_of_getElem? hr')
  have c0 : ∀ w, r.2.1 = r'.2.1 ∧ out A r.1 w = out B r'.1 w := fun w => by
    have := al (false :: w)
    rw [out_cons hr, out_cons hr'] at this
    have h1 := (List.cons.inj this).1
    have h2 := (List.cons.inj this).2
    exact ⟨by simpa using h1, by simpa using h2⟩
  have c1 : ∀ w, r.2.2.2 = r'.2.2.2 ∧ out A r.2.2.1 w = out B r'.2.2.1 w := fun w => by
    have := al (true :: w)
    rw [out_cons hr, out_cons hr'] at this
    have h1 := (List.cons.inj this).1
    have h2 := (List.cons.inj this).2
    exact ⟨by simpa using h1, by simpa using h2⟩
  exact ⟨by unfold key1; rw [(c0 []).1, (c1 []).1], ⟨pa.1, pb.1, fun w => (c0 w).2⟩, pa.2, pb.2, fun w => (c1 w).2⟩
theorem rr_l (sA : Apart A) {a a' b : Nat} (h : RR A B a b) (h' : RR A B a' b) : a = a' := sA a a' h.1 h'.1 fun w => (h.2.2 w).trans (h'.2.2 w).symm
theorem rr_r (sB : Apart B) {a b b' : Nat} (h : RR A B a b) (h' : RR A B a b') : b = b' := sB b b' h.2.1 h'.2.1 fun w => (h.2.2 w).symm.trans (h'.2.2 w)
theorem rr_mem (sA : Apart A) (sB : Apart B) {a b : Nat} {s s' : List Nat} (h : RR A B a b) (hs : F2 (RR A B) s s') : a ∈ s ↔ b ∈ s' := by
  constructor
  · intro m
    obtain ⟨c, hc, q⟩ := hs.left m
    rw [rr_r sB h q]
    exact hc
  · intro m
    obtain ⟨c, hc, q⟩ := hs.right m
    rw [rr_l sA h q]
    exact hc
theorem visit_sim (oA : TOk A) (oB : TOk B) (sA : Apart A) (sB : Apart B) : ∀ (f : Nat) {w w' s s' : List Nat}, F2 (RR A B) w w' → F2 (RR A B) s s' → F2 (RR A B) (visit A f w s) (visit B f w' s')
  | 0, _, _, _, _, _, hs => hs
  | f + 1, _, _, _, _, .nil, hs => hs
  | f + 1, x :: w, y :: w', s, s', .cons h hw, hs => by
    have e := rr_mem sA sB h hs
    by_cases hx : x ∈ s
    · rw [visit_old hx, visit_old (e.mp hx)]
      exact visit_sim oA oB sA sB f hw hs
    · have hr : A[x]? = some (A[x]'h.1) := List.getElem?_eq_getElem h.1
      have hr' : B[y]? = some (B[y]'h.2.1) := List.getElem?_eq_getElem h.2.1
      rw [visit_new hx hr, visit_new (fun z => hx (e.mpr z)) hr']
      obtain ⟨_, h1, h2⟩ := rr_step oA oB h hr hr'
      exact visit_sim oA oB sA sB f (hw.append (.cons h1 (.cons h2 .nil))) (hs.append (.cons h .nil))
theorem ix_sim (sA : Apart A) (sB : Apart B) {o o' : List Nat} (nd : o.Nodup) (nd' : o'.Nodup) (h : F2 (RR A B) o o') {a b : Nat} (r : RR A B a b) (hm : a ∈ o) : ix o a = ix o' b := by
  have hm' := (rr_mem sA sB r h).mp hm
  have g := get_ix hm
  have hl := ix_lt hm
  have g' : o'[ix o a]? = some (o'[ix o a]'(by rw [← h.len]; exact hl)) := List.getElem?_eq_getElem _
  have q := h.get g g'
  have e := rr_r sB r q
  rw [← e] at g'
  exact (ix_get nd' g').symm
/-- the visit of the merged table from these states -/
def ord (m : List (Row L)) (b : List Nat) : List Nat := visit m (b.length + 2 * m.length) b []
def laid (m : List (Row L)) (o : List Nat) : List (Row L) := o.filterMap fun s => m[s]?.map (renum (ix o))
/-- the least form -/
def lf (rows : List (Row L)) (starts : List Nat) : List (Row L) × List Nat :=
  (laid (mg rows) (ord (mg rows) (starts.map (at_ (cls rows)))), (starts.map (at_ (cls rows))).map (ix (ord (mg rows) (starts.map (at_ (cls rows))))))
theorem ord_end {m : List (Row L)} {b : List Nat} (ok : TOk m) (hb : ∀ x ∈ b, x < m.length) : VEnd m b [] (ord m b) :=
  visit_end _ ⟨ok, hb, (fun x hx => by cases hx), List.nodup_nil⟩ (by unfold need; simp)
theorem ord_sim (oA : TOk A) (oB : TOk B) (sA : Apart A) (sB : Apart B) {b b' : List Nat} (h : F2 (RR A B) b b') : F2 (RR A B) (ord A b) (ord B b') := by
  have hA : ∀ x ∈ b, x < A.length := fun x hx => let ⟨_, _, q⟩ := h.left hx; q.1
  have hB : ∀ x ∈ b', x < B.length := fun x hx => let ⟨_, _, q⟩ := h.right hx; q.2.1
  have e1 := visit_fuel (f := b.length + 2 * A.length) (w := b) (s := []) ⟨oA, hA, (fun x hx => by cases hx), List.nodup_nil⟩ (by unfold need; simp) (2 * B.length)
  have e2 := visit_fuel (f := b'.length + 2 * B.length) (w := b') (s := []) ⟨oB, hB, (fun x hx => by cases hx), List.nodup_nil⟩ (by unfold need; simp) (2 * A.length)
  unfold ord
  rw [← e1, ← e2, h.len, show b'.length + 2 * B.length + 2 * A.length = b'.length + 2 * A.length + 2 * B.length by omega]
  exact visit_sim oA oB sA sB _ h .nil
theorem laid_get {m : List (Row L)} (f : Nat → Nat) : ∀ {o : List Nat}, (∀ x ∈ o, x < m.length) → ∀ i : Nat, (o.filterMap fun s => m[s]?.map (renum f))[i]? = o[i]?.bind fun s => m[s]?.map (renum f)
  | [], _, i => by simp
  | a :: o, h, i => by
    have ha := h a List.mem_cons_self
    have e : m[a]? = some m[a] := List.getElem?_eq_getElem ha
    rw [List.filterMap_cons]
    simp only [e, Option.map_some]
    cases i with
    | zero => simp [e]
    | succ i =>
      rw [List.getElem?_cons_succ, List.getElem?_cons_succ]
      exact laid_get f (fun x hx => h x (List.mem_cons_of_mem _ hx)) i
theorem laid_len {m : List (Row L)} (f : Nat → Nat) : ∀ {o : List Nat}, (∀ x ∈ o, x < m.length) → (o.filterMap fun s => m[s]?.map (renum f)).length = o.length
  | [], _ => rfl
  | a :: o, h => by
    have ha := h a List.mem_cons_self
    have e : m[a]? = some m[a] := List.getElem?_eq_getElem ha
    rw [List.filterMap_cons]
    simp only [e, Option.map_some, List.length_cons]
    rw [laid_len f fun x hx => h x (List.mem_cons_of_mem _ hx)]
theorem b_lt {rows : List (Row L)} {starts : List Nat} (hs : ∀ s ∈ starts, s < rows.length) : ∀ x ∈ starts.map (at_ (cls rows)), x < (mg rows).length := by
  intro x hx
  obtain ⟨s, h, rfl⟩ := List.mem_map.mp hx
  exact cls_lt (hs s h)
/-- two tables that go alike from their starts have the same least form -/
theorem lf_canon {starts starts' : List Nat} (oA : TOk A) (oB : TOk B) (hA : ∀ s ∈ starts, s < A.length) (hB : ∀ s ∈ starts', s < B.length) (h : F2 (fun a b => Alk A a B b) starts starts') : lf A starts = lf B starts' := by
  have hb : F2 (RR (mg A) (mg B)) (starts.map (at_ (cls A))) (starts'.map (at_ (cls B))) := by
    refine F2.of (by rw [List.length_map, List.length_map, h.len]) fun i a b h1 h2 => ?_
    rw [List.getElem?_map, Option.map_eq_some_iff] at h1 h2
    obtain ⟨s, hs, rfl⟩ := h1
    obtain ⟨s', hs', rfl⟩ := h2
    have q := h.get hs hs'
    have ls := hA s (List.mem_of_getElem? hs)
    have ls' := hB s' (List.mem_of_getElem? hs')
    exact ⟨cls_lt ls, cls_lt ls', fun w => by rw [mg_out oA w ls, mg_out oB w ls']; exact q w⟩
  have mA := mg_ok oA
  have mB := mg_ok oB
  have pA := mg_apart oA
  have pB := mg_apart oB
  have eA := ord_end mA (b_lt hA)
  have eB := ord_end mB (b_lt hB)
  have ho := ord_sim mA mB pA pB hb
  have cA := eA.closed fun x hx => by cases hx
  have cB := eB.closed fun x hx => by cases hx
  unfold lf
  generalize starts.map (at_ (cls A)) = bA at hb eA ho cA
  generalize starts'.map (at_ (cls B)) = bB at hb eB ho cB
  have e1 : laid (mg A) (ord (mg A) bA) = laid (mg B) (ord (mg B) bB) := by
    refine List.ext_getElem? fun i => ?_
    unfold laid
    rw [laid_get _ eA.lt, laid_get _ eB.lt]
    cases hi : (ord (mg A) bA)[i]? with
    | none =>
      have : (ord (mg B) bB)[i]? = none := by
        rw [List.getElem?_eq_none_iff] at hi ⊢
        rw [← ho.len]; exact hi
      rw [this]
      rfl
    | some a =>
      have hl : i < (ord (mg B) bB).length := by rw [← ho.len]; exact (List.getElem?_eq_some_iff.mp hi).1
      have hi' := List.getElem?_eq_getElem hl
      have r := ho.get hi hi'
      rw [hi']
      have ma := List.mem_of_getElem? hi
      have mb := List.mem_of_getElem? hi'
      generalize (ord (mg B) bB)[i] = b at hi' r mb
      have ra : (mg A)[a]? = some ((mg A)[a]'r.1) := List.getElem?_eq_getElem r.1
      have rb : (mg B)[b]? = some ((mg B)[b]'r.2.1) := List.getElem?_eq_getElem r.2.1
      obtain ⟨k, q1, q2⟩ := rr_step mA mB r ra rb
      have ca := cA a ma _ ra
      simp only [Option.bind_some, ra, rb, Option.map_some]
      unfold renum
      rw [ix_sim pA pB eA.nd eB.nd ho q1 ca.1, ix_sim pA pB eA.nd eB.nd ho q2 ca.2, (Prod.mk.inj k).1, (Prod.mk.inj k).2]
  have e2 : bA.map (ix (ord (mg A) bA)) = bB.map (ix (ord (mg B) bB)) := by
    refine List.ext_getElem? fun i => ?_
    rw [List.getElem?_map, List.getElem?_map]
    cases hi : bA[i]? with
    | none =>
      have : bB[i]? = none := by
        rw [List.getElem?_eq_none_iff] at hi ⊢
        rw [← hb.len]; exact hi
      rw [this]
      rfl
    | some a =>
      have hl : i < bB.length := by rw [← hb.len]; exact (List.getElem?_eq_some_iff.mp hi).1
      have hi' := List.getElem?_eq_getElem hl
      have r := hb.get hi hi'
      rw [hi']
      show some _ = some _
      rw [ix_sim pA pB eA.nd eB.nd ho r (eA.all a (List.mem_of_getElem? hi))]
  rw [e1, e2]
variable {rows : List (Row L)} {starts : List Nat}
theorem laid_ok (ok : TOk rows) (hs : ∀ s ∈ starts, s < rows.length) : TOk (lf rows starts).1 := by
  have mA := mg_ok ok
  have eA := ord_end mA (b_lt hs)
  have cA := eA.closed fun x hx => by cases hx
  show TOk (laid _ _)
  generalize starts.map (at_ (cls rows)) = bA at eA cA
  have hl : (laid (mg rows) (ord (mg rows) bA)).length = (ord (mg rows) bA).length := laid_len _ eA.lt
  intro r hr
  rw [hl]
  obtain ⟨i, hi⟩ := List.getElem?_of_mem hr
  unfold laid at hi
  rw [laid_get _ eA.lt] at hi
  cases ho : (ord (mg rows) bA)[i]? with
  | none => rw [ho] at hi; cases hi
  | some a =>
    have ma := List.mem_of_getElem? ho
    have ra : (mg rows)[a]? = some ((mg rows)[a]'(eA.lt a ma)) := List.getElem?_eq_getElem _
    rw [ho] at hi
    simp only [Option.bind_some, ra, Option.map_some] at hi
    have : r = renum (ix (ord (mg rows) bA)) ((mg rows)[a]'(eA.lt a ma)) := (Option.some.inj hi).symm
    rw [this]
    have c := cA a ma _ ra
    exact ⟨ix_lt c.1, ix_lt c.2⟩
theorem lf_st (ok : TOk rows) (hs : ∀ s ∈ starts, s < rows.length) : ∀ s ∈ (lf rows starts).2, s < (lf rows starts).1.length := by
  have mA := mg_ok ok
  have eA := ord_end mA (b_lt hs)
  intro s h
  obtain ⟨x, hx, rfl⟩ := List.mem_map.mp h
  show ix _ x < (laid _ _).length
  unfold laid
  rw [laid_len _ eA.lt]
  exact ix_lt (eA.all x hx)
theorem lf_len : (lf rows starts).2.length = starts.length := by
  show (List.map _ (List.map _ starts)).length = _
  rw [List.length_map, List.length_map]
theorem lf_le (ok : TOk rows) (hs : ∀ s ∈ starts, s < rows.length) : (lf rows starts).1.length ≤ rows.length := by
  have eA := ord_end (mg_ok ok) (b_lt hs)
  show (laid _ _).length ≤ _
  unfold laid
  rw [laid_len _ eA.lt]
  exact Nat.le_trans (few _ eA.nd eA.lt) mg_le
theorem laid_out {m : List (Row L)} {b : List Nat} (mA : TOk m) (hb : ∀ x ∈ b, x < m.length) : ∀ (w : List Bool) {x : Nat}, x ∈ ord m b → out (laid m (ord m b)) (ix (ord m b) x) w = out m x w
  | [], x, _ => by simp [out]
  | c :: w, x, hx => by
    have eA := ord_end mA hb
    have cA := eA.closed fun x hx => by cases hx
    have rx : m[x]? = some (m[x]'(eA.lt x hx)) := List.getElem?_eq_getElem _
    have cx := cA x hx _ rx
    have lx : (laid m (ord m b))[ix (ord m b) x]? = some (renum (ix (ord m b)) (m[x]'(eA.lt x hx))) := by
      unfold laid
      rw [laid_get _ eA.lt, get_ix hx]
      simp only [Option.bind_some, rx, Option.map_some]
    rw [out_cons lx, out_cons rx]
    cases c
    · simp only [Bool.false_eq_true, if_false]
      show some _ :: out _ (ix _ _) w = _
      rw [laid_out mA hb w cx.1]
      rfl
    · simp only [if_true]
      show some _ :: out _ (ix _ _) w = _
      rw [laid_out mA hb w cx.2]
      rfl
/-- the least form goes as the table -/
theorem lf_alk (ok : TOk rows) (hs : ∀ s ∈ starts, s < rows.length) : F2 (fun a b => Alk (lf rows starts).1 a rows b) (lf rows starts).2 starts := by
  have mA := mg_ok ok
  have eA := ord_end mA (b_lt hs)
  refine F2.of lf_len fun i a b h1 h2 w => ?_
  have hb := hs b (List.mem_of_getElem? h2)
  have h1' : (lf rows starts).2[i]? = some (ix (ord (mg rows) (starts.map (at_ (cls rows)))) (at_ (cls rows) b)) := by
    show (List.map _ (List.map _ starts))[i]? = _
    rw [List.getElem?_map, List.getElem?_map, h2]
    rfl
  rw [h1] at h1'
  rw [Option.some.inj h1']
  show out (laid _ _) _ w = _
  rw [laid_out mA (b_lt hs) w (eA.all _ (List.mem_map_of_mem (List.mem_of_getElem? h2))), mg_out ok w hb]
/-- alike exactly if the least forms are the same -/
theorem lf_iff {starts' : List Nat} (oA : TOk A) (oB : TOk B) (hA : ∀ s ∈ starts, s < A.length) (hB : ∀ s ∈ starts', s < B.length) : lf A starts = lf B starts' ↔ F2 (fun a b => Alk A a B b) starts starts' := by
  refine ⟨fun e => ?_, lf_canon oA oB hA hB⟩
  have h1 := lf_alk oA hA
  have h2 := lf_alk oB hB
  rw [← e] at h2
  refine F2.of (h1.len.symm.trans h2.len) fun i a b ha hb w => ?_
  have hl : i < (lf A starts).2.length := by rw [lf_len]; exact (List.getElem?_eq_some_iff.mp ha).1
  have hx := List.getElem?_eq_getElem hl
  exact (h1.get hx ha w).symm.trans (h2.get hx hb w)
/-- the least form of a least form is that form -/
theorem lf_lf (ok : TOk rows) (hs : ∀ s ∈ starts, s < rows.length) : lf (lf rows starts).1 (lf rows starts).2 = lf rows starts :=
  lf_canon (laid_ok ok hs) ok (lf_st ok hs) hs (lf_alk ok hs)
end
end LF

set_option maxHeartbeats 4000000
namespace L2
open PySem PySem.Spec PyProof.Rows RZ
section
variable {X : Cx}
theorem call_len_dx : CallR X (.builtin "len") (fun xs H Q => ∃ d kvs, xs = [.ref d] ∧ H d = some (DX X.prog X.w d kvs) ∧ (∀ p ∈ kvs, KeyAt H p.2.1 p.1) ∧ Q (.int (kvs.length : Int)) H) := by
  intro pins s σ H xs us Q I r h
  obtain ⟨d, kvs, rfl, e, ka, q⟩ := h
  obtain ⟨u, rfl, ru⟩ := vals1 r
  cases ru
  obtain ⟨z, hd, xs, rel, dd⟩ := dx_of I.hok e ka
  have hl := Paired.length rel
  have hb : sizeLine < 2 ^ 63 := by decide
  refine PySem.call_len_dictH hd dd (by omega) ?_
  rw [← hl]
  exact ⟨.int _, H, I.tok _, ⟨_, rfl⟩, q⟩
end
end L2

set_option maxHeartbeats 4000000
namespace L2
open PySem PySem.Spec PyProof.Rows RZ
theorem newClass_enum (v : Value) : Builtin.SmallTypes.newClass "enumerate" { pos := [.type "enumerate", v] } = pure (.type "enumerate", [v]) := by
  unfold Builtin.SmallTypes.newClass
  show (isType (.type "enumerate") >>= _) = _
  simp [isType, sub_enumerate]
theorem meets_enum1 {v : Value} {o : Obj} {H : Heap → Prop} (b : Begins v o H) :
    Meets (Builtin.«enumerate.__new__» { pos := [.type "enumerate", v] }) fun A R s => H s.heap ∧ R (.ok (.ret (.ref (s.heap.push o).objs.size)))
      { heap := (s.heap.push o).push { cls := .type "enumerate", data := .fields #[.none, .bool false, .ref s.heap.objs.size, rawInt 0, .none, .none] }, gens := s.gens, drawn := s.drawn, toks := s.toks, os := s.os } := by
  refine Meets.of_wp ?_
  intro prog w A R s h
  unfold Builtin.«enumerate.__new__»
  rw [newClass_enum]
  refine wpAny_bind (wpAny_pure ?_)
  have fin : ∀ (Q : Fin → Shared → Prop) (E : Value → Shared → Prop), (Q (.done (.ret (.ref (s.heap.push o).objs.size))) { heap := (s.heap.push o).push { cls := .type "enumerate", data := .fields #[.none, .bool false, .ref s.heap.objs.size, rawInt 0, .none, .none] }, gens := s.gens, drawn := s.drawn, toks := s.toks, os := s.os }) →
      wpAny (model prog w) A.in1 (do
        let it ← pyIter v
        let r ← Builtin.SmallTypes.newRecord (.type "enumerate") (Builtin.SmallTypes.ownedTupleFields ++ [it, rawInt 0, .none, .none])
        ret r) Q E s := by
    intro Q E q
    refine wpAny_bind (b.iter _ _ _ _ _ _ h.1 ?_)
    refine wpAny_bind ?_
    unfold Builtin.SmallTypes.newRecord
    show wpAny _ _ (newObj (.type "enumerate") (.fields #[.none, .bool false, .ref s.heap.objs.size, rawInt 0, .none, .none])) _ _ _
    unfold newObj newObjAsIs
    dsimp only
    rw [if_neg (by show ¬ (6 > sizeLine + 2); decide)]
    refine wpAny_bind (wpAny_alloc' ?_)
    refine wpAny_pure ?_
    unfold ret
    refine wpAny_pure ?_
    exact q
  show wpAny _ _ (Builtin.SmallTypes.calledThroughType (.type "enumerate") >>= _) _ _ s
  refine wpAny_bind ?_
  unfold Builtin.SmallTypes.calledThroughType
  refine wpAny_bind (wpAny_stack_any fun st => ?_)
  refine wpAny_pure ?_
  dsimp only
  split <;> (try split) <;> (try dsimp only) <;> (refine wpAny_bind ?_; refine wpAny_pure ?_; exact fin (fun f s' => ∃ v, f = .done (.ret v) ∧ R (.ok (.ret v)) s') (fun e s' => R (.error e) s') ⟨_, rfl, h.2⟩)
theorem enum_begins1 {prog : Program} {w : World} {A : Around} {E : Value → Shared → Prop} {s : Shared} {v : Value} {o : Obj} {H : Heap → Prop} {Q : Value → Shared → Prop} (b : Begins v o H) (hH : H s.heap)
    (k : ∀ h' : Heap, IsEnum h' (s.heap.objs.size + 1) s.heap.objs.size 0 .none → h'.get? s.heap.objs.size = some o → h'.objs.size = s.heap.objs.size + 2 → (∀ (c : Addr) (o' : Obj), s.heap.get? c = some o' → h'.get? c = some o') →
      Q (.ref (s.heap.objs.size + 1)) { heap := h', gens := s.gens, drawn := s.drawn, toks := s.toks, os := s.os }) :
    wpAny (model prog w) A (call (.type "enumerate") [v]) Q E s := by
  refine callType_new PySem.F.called_enumerate (by decide) (PySem.F.typeCall_enumerate_1 _) (PySem.F.newCall_enumerate_1 _) (fun obj => PySem.F.args_object_init_2 _ _) PySem.F.entry_enumerate_new (meets_enum1 b) ⟨hH, ?_⟩
  have h1 : (s.heap.push o).objs.size = s.heap.objs.size + 1 := Heap.size_push _ _
  have g1 : ((s.heap.push o).push { cls := .type "enumerate", data := .fields #[.none, .bool false, .ref s.heap.objs.size, rawInt 0, .none, .none] }).get? (s.heap.push o).objs.size = some { cls := .type "enumerate", data := .fields #[.none, .bool false, .ref s.heap.objs.size, rawInt 0, .none, .none] } := Heap.get?_push_size _ rfl
  refine ⟨⟨_, g1, rfl⟩, ?_⟩
  rw [h1] at g1 ⊢
  refine k _ g1 (Heap.get?_push_of_some _ (Heap.get?_push_size _ b.free)) (by rw [Heap.size_push, h1]) fun c o' e => Heap.get?_push_of_some _ (Heap.get?_push_of_some _ e)
end L2

set_option maxHeartbeats 4000000
namespace L2
open PySem PySem.Spec PyProof.Rows RZ
/-- enumerate over a list or a tuple -/
def IteK (K : PySem.W.Frag) (k : Kind) (a : Addr) : It :=
  ⟨fun i H => ∃ xs x, Sk K k H a xs ∧ xs[i]? = some x,
    fun i H v H' => ∃ T x, v = .ref T ∧ H T = none ∧ H' = upd H T (.tup [.int (i : Int), x]) ∧ ∀ xs, Sk K k H a xs → xs[i]? = some x,
    fun i H => ∃ xs, Sk K k H a xs ∧ xs.length = i⟩
theorem walk_e {K : PySem.W.Frag} {k : Kind} {a : Addr} {xs : List V} : Walk (IteK K k a) xs.length (fun H => Sk K k H a xs) (YPair (fun i => some (V.int (i : Int))) (fun i => xs[i]?)) :=
  ⟨fun i H hi q => ⟨xs, xs[i], q, by simp [hi]⟩, fun H q => ⟨xs, q, rfl⟩, fun i H v H' hi q y => by
    obtain ⟨T, x, rfl, hT, rfl, f⟩ := y
    exact ⟨T, _, x, rfl, hT, rfl, rfl, f xs q⟩⟩
theorem turn_enumK {P : Program} {w : World} {K : PySem.W.Frag} {k : Kind} {elts : List Expr} {kk : Nat} {tpos : Pos} {a e it : Addr} (ne : e ≠ it) (na : a ≠ it) (nae : a ≠ e) :
    Turn P w K (.Tuple elts kk tpos) (IteK K k a) [e, it] e (fun i h => (∃ old, IsEnum h e it (i : Int) old) ∧ IterK k h it a i) where
  mem := List.mem_cons_self
  obj := fun i h st c hc => by
    obtain ⟨⟨old, g1⟩, g2⟩ := st
    simp only [List.mem_cons, List.not_mem_nil, or_false] at hc
    rcases hc with rfl | rfl
    · exact ⟨_, g1, fun v e => by cases e⟩
    · exact iterK_obj g2
  keep := fun i h h' st kp => by
    obtain ⟨⟨old, g1⟩, g2⟩ := st
    exact ⟨⟨old, kp e (by simp) _ g1⟩, iterK_at g2 fun o q => kp it (by simp) o q⟩
  item := by
    intro X eP ew eK calm i pins s σ H E I own st go
    subst eP ew eK
    obtain ⟨⟨old, g1⟩, g2⟩ := st
    obtain ⟨xs, x0, qx, lx0⟩ := go
    obtain ⟨us, ru, pu⟩ := seq_k I qx
    have hu := ru.length
    have lx : i < xs.length := (List.getElem?_eq_some_iff.mp lx0).1
    have elt : e < s.heap.objs.size := Heap.lt_size g1
    have D := draws_k (P := X.prog) (w := X.w) (A := X.A.in1) k (I.ok.hd calm) it a na us.toArray
    refine wpAny_pyNext_enum_itemD D g1 ⟨g2, pu⟩ (by simp; omega) ne (by simp [ne, Ne.symm nae]) fun x1 h' tk px out s1 nt hsz kp => ?_
    obtain ⟨v1, e1, r1⟩ : ∃ v1, xs[i]? = some v1 ∧ RelV v1 x1 := by
      obtain ⟨u, hu', ru'⟩ := ru.get lx0
      have : u = x1 := by
        have px' : us[i]? = some x1 := by simpa using px
        rw [hu'] at px'
        exact Option.some.inj px'
      exact ⟨_, lx0, this ▸ ru'⟩
    refine ⟨_, rfl, wpAny_letOwnedTupleGo_enum (s := { s with heap := h', toks := tk + 1 }) out fun g z'' sb => ?_⟩
    have nt2 : g.get? s.heap.objs.size = some { cls := .type "tuple", data := .seq #[.int (i : Int) tk, x1] } := (sb.2 _ (Nat.ne_of_gt elt)).trans nt
    have ob : ObjOk X.prog X.w (upd H s.heap.objs.size (.tup [.int (i : Int), v1])) g s.heap.objs.size (.tup [.int (i : Int), v1]) :=
      ⟨by show 2 ≤ sizeLine; decide, [.int (i : Int) tk, x1], .cons ⟨tk, rfl⟩ (.cons r1 .nil), _, nt2, rfl, _, rfl⟩
    have all : ∀ c o, ¬ c ∈ [e, it] → s.heap.get? c = some o → g.get? c = some o := fun c o hn q => by
      simp only [List.mem_cons, List.not_mem_nil, or_false, not_or] at hn
      exact (sb.2 c hn.1).trans (kp c o hn.1 hn.2 q)
    have J := I.turnedNew (t' := tk + 1) (ch := [e, it]) all own (Nat.le_refl _) ob
    refine ⟨.ref s.heap.objs.size, _, J, rfl, ⟨_, v1, rfl, I.hok.fresh (Nat.le_refl _), rfl, fun l hl => by rw [sk_inj I hl qx]; exact e1⟩, ⟨⟨_, z''⟩, ?_⟩, fun c hc => ?_⟩
    · exact iterK_at s1.1 fun o q => (sb.2 it ne.symm).trans q
    · have clt : c < s.heap.objs.size := by
        simp only [List.mem_cons, List.not_mem_nil, or_false] at hc
        rcases hc with rfl | rfl
        · exact elt
        · obtain ⟨_, q, _⟩ := iterK_obj g2; exact Heap.lt_size q
      rw [upd_ne (Nat.ne_of_lt clt)]
      exact (own c hc).1
  done := by
    intro X eP ew eK calm i pins s σ H E I own st go
    subst eP ew eK
    obtain ⟨⟨old, g1⟩, g2⟩ := st
    obtain ⟨xs, qx, lx⟩ := go
    obtain ⟨us, ru, pu⟩ := seq_k I qx
    have hu := ru.length
    have D := draws_k (P := X.prog) (w := X.w) (A := X.A.in1) k (I.ok.hd calm) it a na us.toArray
    have hi : i = us.toArray.size := by simp; omega
    rw [hi] at g1 g2
    refine wpAny_pyNext_enum_endD D g1 ⟨g2, pu⟩ fun h' kp => ⟨rfl, ?_⟩
    refine I.turnedL (t' := s.toks) (ch := [e, it]) (fun c o hn q => ?_) own
    simp only [List.mem_cons, List.not_mem_nil, or_false, not_or] at hn
    exact kp c o hn.2 q
  self := fun A i s Q E st h => by
    obtain ⟨⟨old, g1⟩, _⟩ := st
    exact wpAny_pyIter_enum g1 h
def iEnumK (K : PySem.W.Frag) (ta : TA) : TI := fun σ H R => ta σ H fun vs H1 => ∃ k a xs, vs = [.ref a] ∧ Sk K k H1 a xs ∧ R (IteK K k a) H1
theorem pi_enumK {X : Cx} {e : PySem.Expr} {ta : TA} {p pos tpos : Pos} {elts : List PySem.Expr} {kk : Nat} (hg : Gl X "enumerate") (hm : X.mg "enumerate" = none) (ha : PA X [e] ta)
    (hs : starEach [e] X.env = (false, eval e X.env) :: starEach [] X.env := by rfl) (hpl : (backTo pos (starEach [] X.env)).any (·.1) = false := by rfl) :
    PI X (.Tuple elts kk tpos) (.Call (.Name "enumerate" p) [e] [] pos) (iEnumK X.K ta) := by
  refine ⟨fun pins s σ H R I h => Call_ (ld_blt I hg hm PyProof.Rows.boot_enumerate (PyProof.Rows.callWith_type1 (thn (ha.run pos pins s σ H _ I h) fun us t q => ?_) hs hpl))⟩
  obtain ⟨vs, G, J, r1, k, a, xs, ev, qx, q⟩ := q
  subst ev
  cases r1 with
  | cons ra rr =>
    cases rr
    cases ra
    obtain ⟨us, ru, pu⟩ := seq_k J qx
    have la := seqK_lt pu
    refine enum_begins1 (begins_k k a us.toArray) pu fun h' g1 g2 hsz kp => wpAny_pyIter_enum g1 ?_
    generalize hN : t.heap.objs.size = N at la g1 g2
    have J2 : Inv X pins σ G { t with heap := h' } := J.kept (t' := t.toks) kp
    refine ⟨N + 1, [N + 1, N], _, _, G, rfl, J2, turn_enumK (k := k) (a := a) (Nat.succ_ne_self N) (Nat.ne_of_lt la) (Nat.ne_of_lt (Nat.lt_succ_of_lt la)), ⟨⟨_, g1⟩, iter_0 g2⟩, fun c hc => ?_, q⟩
    have le : t.heap.objs.size ≤ c := by
      rw [hN]
      simp only [List.mem_cons, List.not_mem_nil, or_false] at hc
      rcases hc with h1 | h1 <;> rw [h1]
      · exact Nat.le_succ N
      · exact Nat.le_refl N
    exact J.fpOk le (J.hok.fresh le)
end L2

set_option maxHeartbeats 8000000
namespace PA
open PySem L2 RZ
open C8 (pss_cut tCut)
abbrev Rw := Int × Nat × Int × Nat
def rv (r : Rw) : List V := [.int r.1, .int (r.2.1 : Int), .int r.2.2.1, .int (r.2.2.2 : Int)]
def RwOk (n : Nat) (r : Rw) : Prop := (0 ≤ r.1 ∧ r.1 < n) ∧ 0 ≤ r.2.2.1 ∧ r.2.2.1 < n
/-- what stands at each place of a list of references -/
def Each (H : Hp) (P : Hp → Addr → Rw → Prop) (xs : List V) (rows : List Rw) : Prop := xs.length = rows.length ∧ ∀ (i : Nat) (x : V) (r : Rw), xs[i]? = some x → rows[i]? = some r → ∃ c, x = .ref c ∧ P H c r
def isT (H : Hp) (c : Addr) (r : Rw) : Prop := H c = some (.tup (rv r))
def isLT (H : Hp) (c : Addr) (r : Rw) : Prop := H c = some (.tup (rv r)) ∨ H c = some (.lst (rv r))
theorem Each.imp {H H' : Hp} {P P' : Hp → Addr → Rw → Prop} {xs : List V} {rows : List Rw} (e : Each H P xs rows) (f : ∀ c r, P H c r → P' H' c r) : Each H' P' xs rows := ⟨e.1, fun i x r h1 h2 => let ⟨c, hx, q⟩ := e.2 i x r h1 h2; ⟨c, hx, f c r q⟩⟩
theorem Each.sameT {H H' : Hp} {xs : List V} {rows : List Rw} (e : Each H isT xs rows) (s : Same H H') : Each H' isT xs rows := e.imp fun c r q => s _ _ q
theorem Each.sameLT {H H' : Hp} {xs : List V} {rows : List Rw} (e : Each H isLT xs rows) (s : Same H H') : Each H' isLT xs rows := e.imp fun c r q => q.elim (fun q => .inl (s _ _ q)) fun q => .inr (s _ _ q)
theorem Each.nil {H : Hp} {P : Hp → Addr → Rw → Prop} : Each H P [] [] := ⟨rfl, fun i x r h _ => by simp at h⟩
theorem Each.push {H : Hp} {P : Hp → Addr → Rw → Prop} {xs : List V} {rows : List Rw} {c : Addr} {r : Rw} (e : Each H P xs rows) (q : P H c r) : Each H P (xs ++ [.ref c]) (rows ++ [r]) := by
  refine ⟨by rw [List.length_append, List.length_append, e.1]; rfl, fun i x r' h1 h2 => ?_⟩
  rcases Nat.lt_or_ge i xs.length with hi | hi
  · rw [List.getElem?_append_left hi] at h1
    rw [List.getElem?_append_left (by rw [← e.1]; exact hi)] at h2
    exact e.2 i x r' h1 h2
  · rw [List.getElem?_append_right hi] at h1
    rw [List.getElem?_append_right (by rw [← e.1]; exact hi), ← e.1] at h2
    cases hk : i - xs.length with
    | zero =>
      rw [hk] at h1 h2
      have h1' : V.ref c = x := by simpa using h1
      have h2' : r = r' := by simpa using h2
      exact ⟨c, h1'.symm, h2' ▸ q⟩
    | succ k =>
      rw [hk] at h1
      simp at h1
/-- a list is changed: tuples stay -/
theorem isT.lst {H : Hp} {c D : Addr} {r : Rw} {xs ys : List V} (q : isT H c r) (hD : H D = some (.lst xs)) : isT (upd H D (.lst ys)) c r := by
  unfold isT
  rw [upd_ne (ne_of (H := H) q hD (by intro z; cases z))]
  exact q
theorem atI_nat {α : Type} {xs : List α} {i : Nat} {x : α} (h : xs[i]? = some x) : atI xs (i : Int) = some x := by
  unfold atI
  rw [Evl.ixN_nat (List.getElem?_eq_some_iff.mp h).1]
  exact h
end PA

set_option maxHeartbeats 8000000
namespace PA
open PySem L2 RZ
open C8 (pss_cut tCut)
abbrev sLeastF : Stmt := top 16
abbrev sClasses : Stmt := top 17
abbrev sSplit : Stmt := top 18
abbrev sNumbered : Stmt := top 19
abbrev sMerged : Stmt := top 20
abbrev sRenum : Stmt := top 21
abbrev sVisit : Stmt := top 22
theorem u1 {a : Nat} (h : a + 64 < cLine) : a + 1 < cLine := Nat.lt_of_le_of_lt (Nat.add_le_add_left (by decide) a) h
/-- the numbers of some keys, as entries -/
def tab {κ κ' : Type} (f : κ → κ') (n : Nat) (u : List κ) : List (κ' × V) := (u.zipIdx n).map fun x => (f x.1, V.int (x.2 : Int))
section
variable {κ κ' : Type} [DecidableEq κ] [DecidableEq κ'] {f : κ → κ'}
theorem tab_val (inj : ∀ a b, f a = f b → a = b) (k : κ) : ∀ (u : List κ) (n : Nat), valV (tab f n u) (f k) = if k ∈ u then some (V.int ((n + LF.ix u k : Nat) : Int)) else none
  | [], n => by rfl
  | a :: u, n => by
    have ih := tab_val inj k u (n + 1)
    unfold tab at ih ⊢
    rw [List.zipIdx_cons, List.map_cons]
    unfold valV at ih ⊢
    rw [List.find?_cons]
    by_cases e : a = k
    · subst e
      simp [LF.ix]
    · have e' : ¬ f a = f k := fun z => e (inj _ _ z)
      rw [decide_eq_false e']
      rw [ih]
      have em : (k ∈ a :: u) ↔ k ∈ u := by simp [Ne.symm e]
      by_cases hk : k ∈ u
      · rw [if_pos hk, if_pos (em.mpr hk)]
        have ei : LF.ix (a :: u) k = LF.ix u k + 1 := by
          show (if a = k then 0 else LF.ix u k + 1) = _
          rw [if_neg e]
        rw [ei, show n + 1 + LF.ix u k = n + (LF.ix u k + 1) from by omega]
      · rw [if_neg hk, if_neg (fun z => hk (em.mp z))]
theorem tab_len (u : List κ) (n : Nat) : (tab f n u).length = u.length := by unfold tab; simp
theorem tab_snoc (u : List κ) (n : Nat) (k : κ) : tab f n (u ++ [k]) = tab f n u ++ [(f k, V.int ((n + u.length : Nat) : Int))] := by
  unfold tab
  rw [List.zipIdx_append, List.map_append]
  simp [Nat.add_comm]
end
def rIxDP (P : Program) (w : World) : R2 := fun x y H Q => ∃ d b ps k v, x = .ref d ∧ y = .ref b ∧ DxAt P w H d ps ∧ KeyAt H b k ∧ valV ps k = some v ∧ Q v H
theorem ix_dxP {X : Cx} {P : Program} {w : World} (h1 : X.prog = P) (h2 : X.w = w) (hu : X.A.units + 1 < cLine) : IxR X (rIxDP P w) := by
  subst h1 h2
  exact ix_dx hu
def natsV (ns : List Nat) : List V := ns.map fun (n : Nat) => V.int ((n : Nat) : Int)
def spNumbered {κ : Type} [DecidableEq κ] (f : κ → LKey) : Sp := fun vs H Q _ => ∃ (L : Addr) (refs : List V) (ks : List κ), vs = [.ref L] ∧ H L = some (.lst refs) ∧ Ea H (fun H c k => KeyAt H c (f k)) refs ks ∧ ks.length ≤ 3000 ∧
  ∀ p H', H' p = some (.lst (natsV (LF.numb ks))) → H p = none → Same H H' → Q (.ref p) H'
section
variable {P : Program} {w : World} {K : PySem.W.Frag} {mg : Str → Option Value} {base : Heap} {C : Addr}
theorem scNumbered : FnScope ["keys", "numbers", "key"] ["keys"] (defScope sNumbered) := ⟨rfl, rfl, rfl, by decide +kernel, rfl, by decide +kernel, by decide +kernel⟩
theorem ok_numbered {κ : Type} [DecidableEq κ] {fk : κ → LKey} (inj : ∀ a b, fk a = fk b → a = b) {f : Addr} {fd : FuncData} (F : Fun K "_numbered" "_numbered" sNumbered f fd) (T : Txt K mg) : FnOk P w K mg base CX0 1 f fd ["keys"] (spNumbered fk) := by
  refine F.ok scNumbered (fun vs H Q E h => ?_) (fun cdv A outer s H vs Q E hr h => ?_)
  · obtain ⟨L, _, _, rfl, _⟩ := h
    rfl
  · obtain ⟨L, refs, ks, rfl, hL, hE, hk, kk⟩ := h
    have hu := u1 hr.units
    have hlr : refs.length = ks.length := hE.1
    refine ⟨_, pss_cons (ps_set (i := 1) scNumbered.nd rfl (Or.inr rfl) pe_dnewX)
      (pss_cut (ps_for PassesOwn.never rfl (pi_list (pv 0)) (pg_name (i := 2) scNumbered.nd rfl (Or.inl rfl))
        (pss_one (ps_if (pt_cmpR (op_notIn_dx hu) (pv 2) (pv 1) rfl) (pss_one (ps_asg (pe_callB call_len_dx (by rfl) T.len_ PySem.boot_len (pa_cons (pv 1) pa_nil)) (pg_sub (pv 1) (pv 2) (set_dx hu)))) pss_nil)))
      (pss_one (ps_ret (pe_lc (own := [("key", 2)]) (g := gName 2) (tt := tYes) (by rfl) scNumbered.nd (pi_list (pv 0)) (blkOk_by (N := ["keys", "numbers", "key"]) (sc := defScope sNumbered) (by decide +kernel))
          (fun _ _ _ _ _ => pg_name (i := 2) scNumbered.nd rfl (Or.inl rfl)) (fun _ _ _ _ _ => pts_nil)
          (fun _ _ _ _ _ => pe_ix (ix_dxP (P := P) (w := w) rfl rfl hu) (pv 1) (pv 2) (fun _ _ => rfl)))))), ?_⟩
    refine fun d hd => ?_
    have sd := new_ (o := DX P w d []) hd
    refine ⟨fun σ' H' => ∃ x2 kvs, σ' = [some (.ref L), some (.ref d), x2] ∧ Same H H' ∧ H' d = some (DX P w d kvs) ∧ (∀ p ∈ kvs, KeyAt H' p.2.1 p.1) ∧ kvs.map (fun p => (p.1, p.2.2)) = tab fk 0 (LF.uniq ks), ?_, ?_⟩
    · refine ⟨_, rfl, L, rfl, ⟨_, SqL.of (sd _ _ hL)⟩, ?_⟩
      refine for_list (K := K) (a := L) (xs := refs) (fun i σ' H' => ∃ x2 kvs, σ' = [some (.ref L), some (.ref d), x2] ∧ Same H H' ∧ H' d = some (DX P w d kvs) ∧ (∀ p ∈ kvs, KeyAt H' p.2.1 p.1) ∧ kvs.map (fun p => (p.1, p.2.2)) = tab fk 0 (LF.uniq (ks.take i))) ?_ ?_ ?_ ?_
      · exact ⟨none, [], rfl, sd, upd_same, fun p hp => (List.not_mem_nil hp).elim, rfl⟩
      · rintro i σ' H' _ ⟨_, _, _, s', _⟩
        exact SqL.of (s' _ _ hL)
      · rintro i x _ H' hx ⟨x2, kvs, rfl, s', hd', ka, em⟩
        obtain ⟨c, k, rfl, hk', hc⟩ := hE.at_ hx
        have hcS : KeyAt H' c (fk k) := hc.kt fun b ys e => s' _ _ e
        have hval := tab_val (f := fk) inj k (LF.uniq (ks.take i)) 0
        have hn : LF.uniq (ks.take (i + 1)) = LF.push (LF.uniq (ks.take i)) k := by rw [L2.take_succ' hk', LF.uniq_snoc]
        refine ⟨_, rfl, _, rfl, d, c, _, fk k, rfl, rfl, ⟨kvs, hd', em, ka⟩, hcS, _, rfl, ?_⟩
        rw [hval]
        by_cases hm : k ∈ LF.uniq (ks.take i)
        · rw [if_pos hm]
          refine iteF ⟨_, kvs, rfl, s', hd', ka, ?_⟩
          rw [hn, LF.push, if_pos hm]
          exact em
        · rw [if_neg hm] at hval ⊢
          refine iteT ?_
          have hlk : kvs.length = (LF.uniq (ks.take i)).length := by
            have := congrArg List.length em
            rw [List.length_map, tab_len] at this
            exact this
          have hle : (LF.uniq (ks.take i)).length ≤ 3000 := Nat.le_trans (LF.uniq_len _) (by rw [List.length_take]; omega)
          refine ⟨_, rfl, d, kvs, rfl, hd', ka, _, rfl, _, rfl, d, c, kvs, fk k, rfl, rfl, hd', ka, hcS, by rw [em, hval], Nat.lt_of_le_of_lt (by omega : kvs.length ≤ 3000) (by decide), ?_⟩
          have dk : ∀ b ys, H' b = some (.tup ys) → b ≠ d := fun b ys e => ne_of e hd' (by intro z; cases z)
          refine ⟨_, kvs ++ [(fk k, c, .int (kvs.length : Int))], rfl, fun b o e => ?_, upd_same, fun p hp => ?_, ?_⟩
          · rw [upd_ne (ne_of_none e hd)]
            exact s' _ _ e
          · have up : ∀ b k', KeyAt H' b k' → KeyAt (upd H' d (DX P w d (kvs ++ [(fk k, c, .int (kvs.length : Int))]))) b k' := fun b k' q => q.kt fun b' ys e => by rw [upd_ne (dk b' ys e)]; exact e
            rcases List.mem_append.mp hp with hp | hp
            · exact up _ _ (ka p hp)
            · cases List.mem_singleton.mp hp
              exact up _ _ hcS
          · rw [hn, LF.push, if_neg hm, tab_snoc, List.map_append, em, hlk]
            simp
      · rintro σ' H' ⟨x2, kvs, rfl, s', hd', ka, em⟩
        rw [hlr, List.take_length] at em
        exact ⟨x2, kvs, rfl, s', hd', ka, em⟩
    rintro _ H1 ⟨x2, kvs, rfl, s1, hd1, ka, em⟩
    refine ⟨_, rfl, L, rfl, ⟨_, SqL.of (s1 _ _ hL)⟩, fun Dd hD => ?_⟩
    refine lc_same (xs := refs) (walk_l (K := K) (a := L) (xs := refs)) (by rw [hlr]; exact Nat.le_trans hk (by decide)) hD (fun H' s' => SqL.of (s' _ _ (s1 _ _ hL))) (natsV (LF.numb ks)) (by unfold natsV; rw [List.length_map, LF.numb_len, hlr]) (fun i x y H' Φ Ψ hx hy sm kf => ?_) fun H2 s2 hd2 => ?_
    · obtain ⟨c, k, rfl, hk', hc⟩ := hE.at_ hx
      have hyv : y = V.int ((LF.ix (LF.uniq ks) k : Nat) : Int) := by
        unfold natsV at hy
        rw [List.getElem?_map, LF.numb_get hk'] at hy
        injection hy with hy
        exact hy.symm
      have hmk : k ∈ LF.uniq ks := LF.uniq_mem.mpr (List.mem_of_getElem? hk')
      have hval := tab_val (f := fk) inj k (LF.uniq ks) 0
      rw [if_pos hmk, Nat.zero_add] at hval
      refine ⟨rfl, ?_⟩
      dsimp only [tYes]
      rw [if_pos rfl]
      refine ⟨_, rfl, _, rfl, d, c, _, fk k, y, rfl, rfl, ⟨kvs, sm _ _ hd1, em, fun p hp => (ka p hp).kt fun b ys e => sm _ _ e⟩, hc.kt fun b ys e => sm _ _ (s1 _ _ e), by rw [hval, hyv], kf H' fun _ _ e => e⟩
    · exact kk Dd H2 hd2 (Same.none s1 hD) (s1.trans s2)
end
end PA

set_option maxHeartbeats 8000000
namespace L2
open PySem PySem.Spec PyProof.Rows
section
variable {J : It} {n : Nat} {G : Hp → Prop} {f1 f2 : Nat → Option V} {g : TG} {tt : TT} {te : TE} {vs : List Nat} {σ : L2.St} {H1 : Hp} {D : Addr} {Qd : Hp → Prop}
/-- as lc_acc, over pairs -/
theorem lc_accP (w : Walk J n G (YPair f1 f2)) (hn : n ≤ sizeLine) (hD : H1 D = none) (hG : ∀ H, Same H1 H → G H) (A : Nat → List V → Hp → Prop) (hl : ∀ i acc H, A i acc H → acc.length ≤ i) (A0 : A 0 [] (upd H1 D (.lst [])))
    (hs : ∀ (i : Nat) (a b : V) (T : Addr) (H : Hp) (acc : List V) (Φ : V → Hp → Prop) (Ψ : Hp → Prop), i < n → f1 i = some a → f2 i = some b → Same H1 H → H D = some (.lst acc) → A i acc H → H T = none →
      (∀ y H4, Same (upd H T (.tup [a, b])) H4 → (∀ H5, But D H4 H5 → A (i + 1) (acc ++ [y]) H5) → Φ y H4) →
      g (.ref T) (wipe σ vs) (upd H T (.tup [a, b])) fun σ2 H2 => wipe σ2 vs = wipe σ vs ∧ tt σ2 H2 fun b H3 => if b = true then te σ2 H3 Φ else Ψ H3)
    (hd : ∀ H acc, Same H1 H → H D = some (.lst acc) → A n acc H → Qd H) :
    ∃ W : Nat → Nat → Hp → Prop, (∃ m, W 0 m (upd H1 D (.lst []))) ∧ ∀ i m H, W i m H →
      (J.stop i H ∧ Qd H) ∨ (J.go i H ∧ ∃ Nx : Hp → Prop, (∀ H', Nx H' → ∃ m', m' < m ∧ W (i + 1) m' H') ∧ ∀ x H', J.yld i H x H' → g x (wipe σ vs) H' fun σ2 H2 => wipe σ2 vs = wipe σ vs ∧ tt σ2 H2 fun b H3 =>
        if b = true then te σ2 H3 fun y H4 => ∃ acc, H4 D = some (.lst acc) ∧ acc.length < sizeLine ∧ Nx (upd H4 D (.lst (acc ++ [y]))) else Nx H3) := by
  refine lc_it w (fun i H => Same H1 H ∧ ∃ acc, H D = some (.lst acc) ∧ A i acc H) ⟨new_ hD, [], upd_same, A0⟩ (fun i H _ p => hG H p.1) (fun i x H H' hi p y => ?_) fun H p => ?_
  · obtain ⟨T, a, b, rfl, hT, rfl, h1, h2⟩ := y
    obtain ⟨sm, acc, hd', ha⟩ := p
    have sT := new_ (o := .tup [a, b]) hT
    refine hs i a b T _ acc _ _ hi h1 h2 sm hd' ha hT fun y H4 s4 k => ⟨acc, s4 _ _ (sT _ _ hd'), Nat.lt_of_lt_of_le (Nat.lt_of_le_of_lt (hl _ _ _ ha) hi) hn, fun c o e => ?_, acc ++ [y], upd_same, k _ fun c o cd e => ?_⟩
    · rw [upd_ne (ne_of_none e hD)]
      exact s4 _ _ (sT _ _ (sm _ _ e))
    · rw [upd_ne cd]
      exact e
  · obtain ⟨sm, acc, hd', ha⟩ := p
    exact hd H acc sm hd' ha
end
end L2
namespace PA
open PySem L2 RZ
open C8 (pss_cut tCut)
def rIxLK (K : PySem.W.Frag) : R2 := fun x y H Q => ∃ p xs i v, x = .ref p ∧ y = .int i ∧ SqL K H p xs ∧ atI xs i = some v ∧ Q v H
theorem ix_listK {X : Cx} {K : PySem.W.Frag} (h : X.K = K) : IxR X (rIxLK K) := h ▸ ix_list
abbrev Rn := LF.Row Nat
def rz (r : Rn) : Rw := ((r.1 : Int), r.2.1, (r.2.2.1 : Int), r.2.2.2)
abbrev isR : Hp → Addr → Rn → Prop := fun H c r => isT H c (rz r)
def lk2 (k : Nat × Nat) : LKey := [.num (k.1 : Int), .num (k.2 : Int)]
def lk3 (k : Nat × Nat × Nat) : LKey := [.num (k.1 : Int), .num (k.2.1 : Int), .num (k.2.2 : Int)]
theorem lk2_inj (a b : Nat × Nat) (h : lk2 a = lk2 b) : a = b := by
  obtain ⟨a1, a2⟩ := a
  obtain ⟨b1, b2⟩ := b
  unfold lk2 at h
  simp only [List.cons.injEq, Leaf.num.injEq, and_true] at h
  obtain ⟨h1, h2⟩ := h
  have e1 : a1 = b1 := by omega
  have e2 : a2 = b2 := by omega
  rw [e1, e2]
theorem lk3_inj (a b : Nat × Nat × Nat) (h : lk3 a = lk3 b) : a = b := by
  obtain ⟨a1, a2, a3⟩ := a
  obtain ⟨b1, b2, b3⟩ := b
  unfold lk3 at h
  simp only [List.cons.injEq, Leaf.num.injEq, and_true] at h
  obtain ⟨h1, h2, h3⟩ := h
  have e1 : a1 = b1 := by omega
  have e2 : a2 = b2 := by omega
  have e3 : a3 = b3 := by omega
  rw [e1, e2, e3]
theorem nat_at {cs : List Nat} {i : Nat} (h : i < cs.length) : atI (natsV cs) (i : Int) = some (V.int ((LF.at_ cs i : Nat) : Int)) := by
  refine atI_nat ?_
  unfold natsV
  rw [List.getElem?_map, LF.get_of_lt h]
  rfl
def spSplit (K : PySem.W.Frag) : Sp := fun vs H Q _ => ∃ (R L : Addr) (k : L2.Kind) (refs : List V) (rows : List Rn) (cs : List Nat), vs = [.ref R, .ref L] ∧ Sk K k H R refs ∧ Ea H isR refs rows ∧ H L = some (.lst (natsV cs)) ∧ cs.length = rows.length ∧ LF.TOk rows ∧ rows.length ≤ 3000 ∧
  ∀ p H', H' p = some (.lst (natsV (LF.split rows cs))) → H p = none → Same H H' → Q (.ref p) H'
section
variable {P : Program} {w : World} {K : PySem.W.Frag} {mg : Str → Option Value} {base : Heap} {C : Addr}
theorem scSplit : FnScope ["rows", "classes", "state", "row"] ["rows", "classes"] (defScope sSplit) := ⟨rfl, rfl, rfl, by decide +kernel, rfl, by decide +kernel, by decide +kernel⟩
theorem ok_split {f g : Addr} {fd gd : FuncData} (F : Fun K "_split" "_split" sSplit f fd) (T : Txt K mg) (hen : mg "enumerate" = none) (D : Df K mg "_numbered" sNumbered g gd ["keys"]) : FnOk P w K mg base CX0 2 f fd ["rows", "classes"] (spSplit K) := by
  have G : FnOk P w K mg base CX0 1 g gd ["keys"] (spNumbered lk3) := ok_numbered lk3_inj D.F T
  refine F.ok scSplit (fun vs H Q E h => ?_) (fun cdv A outer s H vs Q E hr h => ?_)
  · obtain ⟨R, L, _, _, _, _, rfl, _⟩ := h
    rfl
  · obtain ⟨R, L, k, refs, rows, cs, rfl, hR, hE, hL, hcs, ok, hsz, kk⟩ := h
    have hlr : refs.length = rows.length := hE.1
    refine ⟨_, pss_one (ps_ret (pe_call G hr rfl D.M D.F.kp D.B .nil pass0 (pa_cons (pe_lc (own := [("state", 2), ("row", 3)]) (g := gTup K 2 (gCons (gName 2) (gCons (gName 3) gNil))) (tt := tYes) (by rfl) scSplit.nd (pi_enumK (by rfl) hen (pa_cons (pv 0) pa_nil)) (blkOk_by (N := ["rows", "classes", "state", "row"]) (sc := defScope sSplit) (by decide +kernel))
          (fun _ _ _ _ _ => by exact pg_tup rfl (pgs_cons (pg_name (i := 2) scSplit.nd rfl (Or.inl rfl)) (pgs_cons (pg_name (i := 3) scSplit.nd rfl (Or.inl rfl)) pgs_nil))) (fun _ _ _ _ _ => pts_nil)
          (fun _ _ _ _ _ => pe_tup (pa_cons (pe_ix (ix_listK (K := K) rfl) (pv 1) (pv 2) (fun _ _ => rfl)) (pa_cons (pe_ix (ix_listK (K := K) rfl) (pv 1) (pe_ix (ix_tupK (K := K) rfl) (pv 3) pe_int (fun _ _ => rfl)) (fun _ _ => rfl)) (pa_cons (pe_ix (ix_listK (K := K) rfl) (pv 1) (pe_ix (ix_tupK (K := K) rfl) (pv 3) pe_int (fun _ _ => rfl)) (fun _ _ => rfl)) pa_nil))))) pa_nil))), ?_⟩
    refine ⟨_, rfl, k, R, refs, rfl, hR, fun Dd hD => ?_⟩
    refine lc_accP (walk_e (K := K) (k := k) (a := R) (xs := refs)) (by rw [hlr]; exact Nat.le_trans hsz (by decide)) hD (fun H' s' => hR.up s') (fun i acc H' => Ea H' (fun H c k => KeyAt H c (lk3 k)) acc ((rows.zipIdx.map (LF.key2 cs)).take i)) (fun i acc H' e => by rw [e.1, List.length_take]; omega) (by rw [List.take_zero]; exact Ea.nil) (fun i x y t H' acc Φ Ψ hi hx hy sm hd he ht kf => ?_) fun H1 acc s1 hd he => ?_
    · cases hx
      obtain ⟨c, r, rfl, hr', hc⟩ := hE.at_ hy
      have st := new_ (o := .tup [.int (i : Int), .ref c]) ht
      have hL' := st _ _ (sm _ _ hL)
      have hc' : isT (upd H' t (.tup [.int (i : Int), .ref c])) c (rz r) := st _ _ (sm _ _ hc)
      obtain ⟨o1, o2⟩ := ok r (List.mem_of_getElem? hr')
      refine ⟨t, _, rfl, SqT.of upd_same, rfl, _, _, rfl, _, _, rfl, rfl, rfl, ?_⟩
      dsimp only [tYes]
      rw [if_pos rfl]
      refine ⟨_, rfl, _, rfl, L, _, _, _, rfl, rfl, SqL.of hL', nat_at (by rw [hcs, ← hlr]; exact hi), _, rfl, _, rfl, c, _, 0, _, rfl, rfl, SqT.of hc', rfl, L, _, _, _, rfl, rfl, SqL.of hL', nat_at (by rw [hcs]; exact o1), _, rfl, _, rfl, c, _, 2, _, rfl, rfl, SqT.of hc', rfl, L, _, _, _, rfl, rfl, SqL.of hL', nat_at (by rw [hcs]; exact o2), by show 3 ≤ sizeLine; decide, fun u hu => ?_⟩
      have su := new_ (o := .tup [.int ((LF.at_ cs i : Nat) : Int), .int ((LF.at_ cs r.1 : Nat) : Int), .int ((LF.at_ cs r.2.2.1 : Nat) : Int)]) hu
      refine kf _ _ su fun H5 b5 => ?_
      have hz : (rows.zipIdx.map (LF.key2 cs))[i]? = some (LF.key2 cs (r, i)) := by rw [List.getElem?_map, LF.zip_get hr']; rfl
      rw [L2.take_succ' hz]
      have hdd : ∀ b ys, (upd (upd H' t (.tup [.int (i : Int), .ref c])) u (.tup [.int ((LF.at_ cs i : Nat) : Int), .int ((LF.at_ cs r.1 : Nat) : Int), .int ((LF.at_ cs r.2.2.1 : Nat) : Int)])) b = some (.tup ys) → b ≠ Dd := fun b ys e => ne_of e (su _ _ (st _ _ hd)) (by intro z; cases z)
      refine Ea.push (he.imp fun c' k' q => q.kt fun b ys e => ?_) ⟨_, b5 _ _ (hdd _ _ upd_same) upd_same, .cons (.inl rfl) (.cons (.inl rfl) (.cons (.inl rfl) .nil))⟩
      have e' := su _ _ (st _ _ e)
      exact b5 _ _ (hdd _ _ e') e'
    · have hl2 : refs.length = (rows.zipIdx.map (LF.key2 cs)).length := by simp [hlr]
      rw [hl2, List.take_length] at he
      exact ⟨Dd, acc, _, rfl, hd, he, by simp; exact hsz, fun p H' hp hn s' => kk p H' hp (Same.none s1 hn) (s1.trans s')⟩
end
end PA

set_option maxHeartbeats 8000000
namespace PA
open PySem L2 RZ
open C8 (pss_cut tCut)
theorem ints_eqv : ∀ ns ms : List Int, PyData.eqv (.list (ns.map PyData.int)) (.list (ms.map PyData.int)) = decide (ns = ms)
  | [], [] => by simp [PyData.eqv, PyData.eqvAll]
  | [], m :: ms => by simp [PyData.eqv, PyData.eqvAll]
  | n :: ns, [] => by simp [PyData.eqv, PyData.eqvAll]
  | n :: ns, m :: ms => by
    have ih := ints_eqv ns ms
    simp only [PyData.eqv] at ih
    simp only [List.map_cons, PyData.eqv, PyData.eqvAll]
    rw [ih]
    by_cases e : n = m
    · subst e
      by_cases e2 : ns = ms
      · subst e2; simp
      · simp [e2]
    · simp [e]
theorem natsV_ints (ns : List Nat) : natsV ns = (ns.map fun (n : Nat) => ((n : Nat) : Int)).map V.int := by
  unfold natsV
  rw [List.map_map]
  rfl
theorem nats_inj {ns ms : List Nat} : (ns.map fun (n : Nat) => ((n : Nat) : Int)) = (ms.map fun (n : Nat) => ((n : Nat) : Int)) ↔ ns = ms := by
  exact List.map_inj_right (fun a b e => Int.ofNat.inj e)
def spClasses (K : PySem.W.Frag) : Sp := fun vs H Q _ => ∃ (R : Addr) (k : L2.Kind) (refs : List V) (rows : List Rn), vs = [.ref R] ∧ Sk K k H R refs ∧ Ea H isR refs rows ∧ LF.TOk rows ∧ rows.length ≤ 3000 ∧
  ∀ p H', H' p = some (.lst (natsV (LF.cls rows))) → H p = none → Same H H' → Q (.ref p) H'
section
variable {P : Program} {w : World} {K : PySem.W.Frag} {mg : Str → Option Value} {base : Heap} {C : Addr}
theorem scClasses : FnScope ["rows", "classes", "finer", "row"] ["rows"] (defScope sClasses) := ⟨rfl, rfl, rfl, by decide +kernel, rfl, by decide +kernel, by decide +kernel⟩
theorem ok_classes {f g g2 : Addr} {fd gd gd2 : FuncData} (F : Fun K "_classes" "_classes" sClasses f fd) (T : Txt K mg) (hen : mg "enumerate" = none) (D : Df K mg "_numbered" sNumbered g gd ["keys"]) (D2 : Df K mg "_split" sSplit g2 gd2 ["rows", "classes"]) : FnOk P w K mg base CX0 3 f fd ["rows"] (spClasses K) := by
  have G : FnOk P w K mg base CX0 1 g gd ["keys"] (spNumbered lk2) := ok_numbered lk2_inj D.F T
  have G2 : FnOk P w K mg base CX0 2 g2 gd2 ["rows", "classes"] (spSplit K) := ok_split D2.F T hen D
  refine F.ok scClasses (fun vs H Q E h => ?_) (fun cdv A outer s H vs Q E hr h => ?_)
  · obtain ⟨R, _, _, _, rfl, _⟩ := h
    rfl
  · obtain ⟨R, k, refs, rows, rfl, hR, hE, ok, hsz, kk⟩ := h
    have hr1 : Room 1 _ := hr.mono (by decide)
    have hlr : refs.length = rows.length := hE.1
    refine ⟨_, pss_cons (ps_set (i := 1) scClasses.nd rfl (Or.inl rfl) (pe_call G hr1 rfl D.M D.F.kp D.B .nil pass0 (pa_cons (pe_lc (own := [("row", 3)]) (g := gName 3) (tt := tYes) (by rfl) scClasses.nd (pi_sq (pv 0)) (blkOk_by (N := ["rows", "classes", "finer", "row"]) (sc := defScope sClasses) (by decide +kernel))
          (fun _ _ _ _ _ => pg_name (i := 3) scClasses.nd rfl (Or.inl rfl)) (fun _ _ _ _ _ => pts_nil)
          (fun _ _ _ _ _ => pe_tup (pa_cons (pe_ix (ix_tupK (K := K) rfl) (pv 3) pe_int (fun _ _ => rfl)) (pa_cons (pe_ix (ix_tupK (K := K) rfl) (pv 3) pe_int (fun _ _ => rfl)) pa_nil)))) pa_nil)))
      (pss_cons (ps_set (i := 2) scClasses.nd rfl (Or.inl rfl) (pe_call G2 hr rfl D2.M D2.F.kp D2.B .nil pass0 (pa_cons (pv 0) (pa_cons (pv 1) pa_nil))))
      (pss_cons (ps_while PassesOwn.never (pt_cmpR (op_neD hr.units) (pv 2) (pv 1) (nomark _))
        (pss_cons (ps_set (i := 1) scClasses.nd rfl (Or.inl rfl) (pv 2)) (pss_one (ps_set (i := 2) scClasses.nd rfl (Or.inl rfl) (pe_call G2 hr rfl D2.M D2.F.kp D2.B .nil pass0 (pa_cons (pv 0) (pa_cons (pv 1) pa_nil)))))))
      (pss_one (ps_ret (pv 1))))), ?_⟩
    refine ⟨k, _, rfl, R, rfl, ⟨_, hR⟩, fun Dd hD => ?_⟩
    refine lc_acc (xs := refs) (walk_k (k := k)) (by rw [hlr]; exact Nat.le_trans hsz (by decide)) hD (fun H' s' => hR.up s') (fun i acc H' => Ea H' (fun H c k => KeyAt H c (lk2 k)) acc ((rows.map LF.key1).take i)) (fun i acc H' e => by rw [e.1, List.length_take]; omega) (by rw [List.take_zero]; exact Ea.nil) (fun i x H' acc Φ Ψ hi hx sm hd he kf => ?_) fun H1 acc s1 hd he => ?_
    · obtain ⟨c, r, rfl, hr', hc⟩ := hE.at_ hx
      have hc' : isT H' c (rz r) := sm _ _ hc
      refine ⟨rfl, ?_⟩
      dsimp only [tYes]
      rw [if_pos rfl]
      refine ⟨_, rfl, c, _, _, _, rfl, rfl, SqT.of hc', rfl, _, rfl, c, _, _, _, rfl, rfl, SqT.of hc', rfl, by show 2 ≤ sizeLine; decide, fun u hu => ?_⟩
      have su := new_ (o := .tup [.int (r.2.1 : Int), .int (r.2.2.2 : Int)]) hu
      refine kf _ _ su (su _ _ hd) fun H5 h5 b5 _ => ?_
      have hz : (rows.map LF.key1)[i]? = some (LF.key1 r) := by rw [List.getElem?_map, hr']; rfl
      rw [L2.take_succ' hz]
      have hdd : ∀ b ys, (upd H' u (.tup [.int (r.2.1 : Int), .int (r.2.2.2 : Int)])) b = some (.tup ys) → b ≠ Dd := fun b ys e => ne_of e (su _ _ hd) (by intro z; cases z)
      refine Ea.push (he.imp fun c' k' q => q.kt fun b ys e => ?_) ⟨_, b5 _ _ (hdd _ _ upd_same) upd_same, .cons (.inl rfl) (.cons (.inl rfl) .nil)⟩
      exact b5 _ _ (hdd _ _ (su _ _ e)) (su _ _ e)
    have hl2 : refs.length = (rows.map LF.key1).length := by simp [hlr]
    rw [hl2, List.take_length] at he
    refine ⟨Dd, acc, _, rfl, hd, he, by simp; exact hsz, fun p H2 hp hpn s2 => ?_⟩
    have s12 := s1.trans s2
    have hp0 := Same.none s1 hpn
    have clen : ∀ j, (LF.chain rows j).length = rows.length := LF.chain_len
    refine ⟨_, rfl, _, rfl, R, p, k, refs, rows, LF.chain rows 0, rfl, hR.up s12, hE.imp (fun c r q => s12 _ _ q), hp, clen 0, ok, hsz, fun q H3 hq hqn s3 => ?_⟩
    obtain ⟨kr, _, hmin, hrest⟩ := LF.rests ok
    have hcls := LF.cls_of ok hmin hrest
    refine ⟨fun m σ' H' => ∃ j a b x3, m = kr - j ∧ j ≤ kr ∧ σ' = [some (.ref R), some (.ref a), some (.ref b), x3] ∧ Same H H' ∧ H a = none ∧ H' a = some (.lst (natsV (LF.chain rows j))) ∧ H' b = some (.lst (natsV (LF.chain rows (j + 1)))) ∧ H b = none, ⟨kr, 0, p, q, none, rfl, Nat.zero_le _, rfl, s12.trans s3, hp0, s3 _ _ hp, hq, Same.none s12 hqn⟩, ?_⟩
    rintro m σ' H' ⟨j, a, b, x3, rfl, hj, rfl, s', ha0, ha, hb, hb0⟩
    refine ⟨_, rfl, _, rfl, .list ((LF.chain rows (j + 1)).map fun (n : Nat) => PyData.int ((n : Nat) : Int)), .list ((LF.chain rows j).map fun (n : Nat) => PyData.int ((n : Nat) : Int)), ?_, ?_, ?_, ?_, _, rfl, ?_⟩
    · have := dp_ints (K := K) (H := H') ((LF.chain rows (j + 1)).map fun (n : Nat) => ((n : Nat) : Int))
      rw [← natsV_ints, List.map_map] at this
      exact .lst (SqL.of hb) this
    · have := dp_ints (K := K) (H := H') ((LF.chain rows j).map fun (n : Nat) => ((n : Nat) : Int))
      rw [← natsV_ints, List.map_map] at this
      exact .lst (SqL.of ha) this
    · have := ints_shaped ((LF.chain rows (j + 1)).map fun (n : Nat) => ((n : Nat) : Int))
      rw [List.map_map] at this
      exact this
    · have := ints_shaped ((LF.chain rows j).map fun (n : Nat) => ((n : Nat) : Int))
      rw [List.map_map] at this
      exact this
    have heq := ints_eqv ((LF.chain rows (j + 1)).map fun (n : Nat) => ((n : Nat) : Int)) ((LF.chain rows j).map fun (n : Nat) => ((n : Nat) : Int))
    rw [List.map_map, List.map_map] at heq
    have heq' : PyData.eqv (.list ((LF.chain rows (j + 1)).map fun (n : Nat) => PyData.int ((n : Nat) : Int))) (.list ((LF.chain rows j).map fun (n : Nat) => PyData.int ((n : Nat) : Int))) = decide (LF.chain rows (j + 1) = LF.chain rows j) := by
      refine Eq.trans heq ?_
      by_cases e : LF.chain rows (j + 1) = LF.chain rows j
      · rw [decide_eq_true e, decide_eq_true (nats_inj.mpr e)]
      · rw [decide_eq_false e, decide_eq_false (fun z => e (nats_inj.mp z))]
    rw [heq']
    by_cases e : LF.chain rows (j + 1) = LF.chain rows j
    · rw [decide_eq_true e]
      have hjk : j = kr := by
        rcases Nat.lt_or_ge j kr with q | q
        · exact absurd e.symm (hmin j q)
        · omega
      subst hjk
      refine iteF ⟨_, rfl, kk a H' ?_ ha0 s'⟩
      rw [hcls]
      exact ha
    · rw [decide_eq_false e]
      refine iteT ⟨fun σ2 H2' => ∃ a2 b2 x3, σ2 = [some (.ref R), some (.ref a2), some (.ref b2), x3] ∧ Same H H2' ∧ H a2 = none ∧ H2' a2 = some (.lst (natsV (LF.chain rows (j + 1)))) ∧ H2' b2 = some (.lst (natsV (LF.chain rows (j + 1 + 1)))) ∧ H b2 = none, ?_, ?_⟩
      · rintro σ2 H2' ⟨a2, b2, x3', rfl, q1, q2, q3, q4, q5⟩
        have hjk : j < kr := by
          rcases Nat.lt_or_ge j kr with q | q
          · exact q
          · have : j = kr := by omega
            subst this
            exact absurd hrest.symm e
        exact ⟨kr - (j + 1), by omega, j + 1, a2, b2, x3', rfl, hjk, rfl, q1, q2, q3, q4, q5⟩
      · refine ⟨_, rfl, _, rfl, _, rfl, R, b, k, refs, rows, LF.chain rows (j + 1), rfl, hR.up s', hE.imp (fun c r q => s' _ _ q), hb, clen _, ok, hsz, fun q2 H4 hq2 hq2n s4 => ?_⟩
        exact ⟨b, q2, x3, rfl, s'.trans s4, hb0, s4 _ _ hb, hq2, Same.none s' hq2n⟩
end
end PA

set_option maxHeartbeats 8000000
namespace PA
open PySem L2 RZ
open C8 (pss_cut tCut)
def ki (n : Nat) : Key := Sum.inl ((n : Nat) : Int)
theorem ki_inj (a b : Nat) (h : ki a = ki b) : a = b := by
  unfold ki at h
  injection h with h
  omega
/-- the dict of the visited states -/
abbrev ents (o : List Nat) : List (Key × V) := tab ki 0 o
theorem ents_val (o : List Nat) (x : Nat) : valV (ents o) (ki x) = if x ∈ o then some (V.int ((LF.ix o x : Nat) : Int)) else none := by
  have := tab_val (f := ki) ki_inj x o 0
  rw [Nat.zero_add] at this
  exact this
def spRenL : Sp := fun vs H Q _ => ∃ (c L : Addr) (r : Rn) (cs : List Nat), vs = [.ref c, .ref L] ∧ isR H c r ∧ H L = some (.lst (natsV cs)) ∧ r.1 < cs.length ∧ r.2.2.1 < cs.length ∧ ∀ t H', Same H H' → isR H' t (LF.renum (LF.at_ cs) r) → Q (.ref t) H'
def spRenD : Sp := fun vs H Q _ => ∃ (c d : Addr) (r : Rn) (o : List Nat), vs = [.ref c, .ref d] ∧ isR H c r ∧ Rd H d (.dK (ents o)) ∧ r.1 ∈ o ∧ r.2.2.1 ∈ o ∧ ∀ t H', Same H H' → isR H' t (LF.renum (LF.ix o) r) → Q (.ref t) H'
section
variable {P : Program} {w : World} {K : PySem.W.Frag} {mg : Str → Option Value} {base : Heap} {C : Addr}
theorem scRenum : FnScope ["row", "numbers"] ["row", "numbers"] (defScope sRenum) := ⟨rfl, rfl, rfl, by decide +kernel, rfl, by decide +kernel, by decide +kernel⟩
theorem ok_renL {f : Addr} {fd : FuncData} (F : Fun K "_renumbered" "_renumbered" sRenum f fd) : FnOk P w K mg base CX0 1 f fd ["row", "numbers"] spRenL := by
  refine F.ok scRenum (fun vs H Q E h => ?_) (fun cdv A outer s H vs Q E hr h => ?_)
  · obtain ⟨c, L, _, _, rfl, _⟩ := h
    rfl
  · obtain ⟨c, L, r, cs, rfl, hc, hL, h1, h2, kk⟩ := h
    refine ⟨_, pss_one (ps_ret (pe_tup (pa_cons (pe_ix ix_list (pv 1) (pe_ix ix_tup (pv 0) pe_int (fun _ _ => rfl)) (fun _ _ => rfl)) (pa_cons (pe_ix ix_tup (pv 0) pe_int (fun _ _ => rfl)) (pa_cons (pe_ix ix_list (pv 1) (pe_ix ix_tup (pv 0) pe_int (fun _ _ => rfl)) (fun _ _ => rfl)) (pa_cons (pe_ix ix_tup (pv 0) pe_int (fun _ _ => rfl)) pa_nil)))))), ?_⟩
    have hcT : H c = some (.tup (rv (rz r))) := hc
    refine ⟨_, rfl, _, rfl, c, _, _, _, rfl, rfl, SqT.of hcT, rfl, L, _, _, _, rfl, rfl, SqL.of hL, nat_at h1, _, rfl, c, _, _, _, rfl, rfl, SqT.of hcT, rfl, _, rfl, _, rfl, c, _, _, _, rfl, rfl, SqT.of hcT, rfl, L, _, _, _, rfl, rfl, SqL.of hL, nat_at h2, _, rfl, c, _, _, _, rfl, rfl, SqT.of hcT, rfl, by show 4 ≤ sizeLine; decide, fun t ht => ?_⟩
    exact kk t _ (new_ ht) upd_same
theorem ok_renD {f : Addr} {fd : FuncData} (F : Fun K "_renumbered" "_renumbered" sRenum f fd) : FnOk P w K mg base CX0 1 f fd ["row", "numbers"] spRenD := by
  refine F.ok scRenum (fun vs H Q E h => ?_) (fun cdv A outer s H vs Q E hr h => ?_)
  · obtain ⟨c, L, _, _, rfl, _⟩ := h
    rfl
  · obtain ⟨c, d, r, o, rfl, hc, hd, h1, h2, kk⟩ := h
    have hu := u1 hr.units
    refine ⟨_, pss_one (ps_ret (pe_tup (pa_cons (pe_dget hu (pv 1) (pe_ix ix_tup (pv 0) pe_int (fun _ _ => rfl)) (fun _ _ => rfl)) (pa_cons (pe_ix ix_tup (pv 0) pe_int (fun _ _ => rfl)) (pa_cons (pe_dget hu (pv 1) (pe_ix ix_tup (pv 0) pe_int (fun _ _ => rfl)) (fun _ _ => rfl)) (pa_cons (pe_ix ix_tup (pv 0) pe_int (fun _ _ => rfl)) pa_nil)))))), ?_⟩
    have hcT : H c = some (.tup (rv (rz r))) := hc
    have dg : ∀ x, x ∈ o → DGet H d (.int ((x : Nat) : Int)) (some (V.int ((LF.ix o x : Nat) : Int))) := by
      intro x hx
      have hv := ents_val o x
      rw [if_pos hx] at hv
      exact .inl ⟨ents o, ki x, hd, rfl, hv.symm⟩
    refine ⟨_, rfl, _, rfl, c, _, _, _, rfl, rfl, SqT.of hcT, rfl, d, _, rfl, dg _ h1, _, rfl, c, _, _, _, rfl, rfl, SqT.of hcT, rfl, _, rfl, _, rfl, c, _, _, _, rfl, rfl, SqT.of hcT, rfl, d, _, rfl, dg _ h2, _, rfl, c, _, _, _, rfl, rfl, SqT.of hcT, rfl, by show 4 ≤ sizeLine; decide, fun t ht => ?_⟩
    exact kk t _ (new_ ht) upd_same
end
end PA

set_option maxHeartbeats 8000000
namespace PA
open PySem L2 RZ
open C8 (pss_cut tCut)
def spMerged (K : PySem.W.Frag) : Sp := fun vs H Q _ => ∃ (R L : Addr) (k : L2.Kind) (refs : List V) (rows : List Rn) (cs : List Nat), vs = [.ref R, .ref L] ∧ Sk K k H R refs ∧ Ea H isR refs rows ∧ H L = some (.lst (natsV cs)) ∧ cs.length = rows.length ∧ LF.TOk rows ∧ rows.length ≤ 3000 ∧
  (∀ i ≤ rows.length, ((rows.zipIdx.take i).foldl (LF.mstep cs) []).length ≤ i) ∧
  ∀ p H' refs', H' p = some (.lst refs') → Ea H' isR refs' (LF.merged rows cs) → H p = none → Same H H' → Q (.ref p) H'
theorem isR.lst {H : Hp} {c D : Addr} {r : Rn} {xs ys : List V} (q : isR H c r) (hD : H D = some (.lst xs)) : isR (upd H D (.lst ys)) c r := isT.lst q hD
section
variable {P : Program} {w : World} {K : PySem.W.Frag} {mg : Str → Option Value} {base : Heap} {C : Addr}
theorem scMerged : FnScope ["rows", "classes", "merged", "state", "row"] ["rows", "classes"] (defScope sMerged) := ⟨rfl, rfl, rfl, by decide +kernel, rfl, by decide +kernel, by decide +kernel⟩
theorem ok_merged {f g : Addr} {fd gd : FuncData} (F : Fun K "_merged" "_merged" sMerged f fd) (T : Txt K mg) (hen : mg "enumerate" = none) (D : Df K mg "_renumbered" sRenum g gd ["row", "numbers"]) : FnOk P w K mg base CX0 2 f fd ["rows", "classes"] (spMerged K) := by
  have G : FnOk P w K mg base CX0 1 g gd ["row", "numbers"] spRenL := ok_renL D.F
  refine F.ok scMerged (fun vs H Q E h => ?_) (fun cdv A outer s H vs Q E hr h => ?_)
  · obtain ⟨R, L, _, _, _, _, rfl, _⟩ := h
    rfl
  · obtain ⟨R, L, k, refs, rows, cs, rfl, hR, hE, hL, hcs, ok, hsz, hlen, kk⟩ := h
    have hlr : refs.length = rows.length := hE.1
    refine ⟨_, pss_cons (ps_set (i := 2) scMerged.nd rfl (Or.inl rfl) (pe_lst pa_nil))
      (pss_cons (ps_for PassesOwn.never rfl (pi_enumK (by rfl) hen (pa_cons (pv 0) pa_nil)) (pg_tup rfl (pgs_cons (pg_name (i := 3) scMerged.nd rfl (Or.inl rfl)) (pgs_cons (pg_name (i := 4) scMerged.nd rfl (Or.inl rfl)) pgs_nil)))
        (pss_one (ps_if (pt_cmpR op_eq (pe_ix ix_list (pv 1) (pv 3) (fun _ _ => rfl)) (pe_callB call_len_seq (by rfl) T.len_ PySem.boot_len (pa_cons (pv 2) pa_nil)) (nomark _))
          (pss_one (ps_expr (pe_bm PySem.F.plainAttrs_list PySem.F.slot_list_append PySem.F.type_list_append mt_append (pv 2) (pa_cons (pe_call G hr rfl D.M D.F.kp D.B .nil pass0 (pa_cons (pv 4) (pa_cons (pv 1) pa_nil))) pa_nil)))) pss_nil)))
      (pss_one (ps_ret (pv 2)))), ?_⟩
    refine ⟨Nat.zero_le _, fun M hM => ?_⟩
    have sM := new_ (o := .lst []) hM
    refine ⟨_, rfl, k, R, refs, rfl, hR.up sM, ?_⟩
    refine for_it (walk_e (K := K) (k := k) (a := R) (xs := refs)) (fun i σ' H' => ∃ x3 x4 acc, σ' = [some (.ref R), some (.ref L), some (.ref M), x3, x4] ∧ Same H H' ∧ H' M = some (.lst acc) ∧ Ea H' isR acc ((rows.zipIdx.take i).foldl (LF.mstep cs) [])) ?_ ?_ ?_ ?_
    · exact ⟨none, none, [], rfl, sM, upd_same, by rw [List.take_zero]; exact Ea.nil⟩
    · rintro i σ' H' _ ⟨_, _, _, _, s', _⟩
      exact hR.up s'
    · rintro i x σ' H' _ hi ⟨x3, x4, acc, rfl, s', hm, he⟩ ⟨t, a, b, rfl, ht, rfl, h1, h2⟩
      dsimp only at h1 h2
      cases h1
      obtain ⟨c, r, rfl, hr', hc⟩ := hE.at_ h2
      have st := new_ (o := .tup [.int (i : Int), .ref c]) ht
      have hL' := st _ _ (s' _ _ hL)
      have hc' : isR (upd H' t (.tup [.int (i : Int), .ref c])) c r := st _ _ (s' _ _ hc)
      have hm' := st _ _ hm
      have he' : Ea (upd H' t (.tup [.int (i : Int), .ref c])) isR acc ((rows.zipIdx.take i).foldl (LF.mstep cs) []) := he.imp fun c' r' q => st _ _ q
      obtain ⟨o1, o2⟩ := ok r (List.mem_of_getElem? hr')
      have hil : i < rows.length := by rw [← hlr]; exact hi
      have hn : (rows.zipIdx.take (i + 1)).foldl (LF.mstep cs) [] = LF.mstep cs ((rows.zipIdx.take i).foldl (LF.mstep cs) []) (r, i) := by
        rw [L2.take_succ' (LF.zip_get hr'), List.foldl_append]
        rfl
      have hal : acc.length = ((rows.zipIdx.take i).foldl (LF.mstep cs) []).length := he.1
      refine ⟨t, _, rfl, SqT.of upd_same, rfl, _, _, rfl, _, _, rfl, rfl, ?_⟩
      refine ⟨_, rfl, _, rfl, L, _, _, _, rfl, rfl, SqL.of hL', nat_at (by rw [hcs]; exact hil), _, rfl, M, _, rfl, .inl (SqL.of hm'), rfl, _, rfl, ifD_2 (fun e => ?_) (fun e => ?_)⟩
      · have e' : LF.at_ cs i = ((rows.zipIdx.take i).foldl (LF.mstep cs) []).length := by
          injection e with e
          omega
        refine ⟨_, rfl, .inl ⟨rfl, _, SqL.of hm'⟩, _, rfl, _, rfl, c, L, r, cs, rfl, hc', hL', by rw [hcs]; exact o1, by rw [hcs]; exact o2, fun u H4 s4 hu4 => ?_⟩
        have hm4 := s4 _ _ hm'
        refine ⟨M, acc, _, rfl, rfl, hm4, ?_, ?_⟩
        · rw [hal]
          exact Nat.lt_of_le_of_lt (Nat.le_trans (hlen i (Nat.le_of_lt hil)) (by omega : i ≤ 3000)) (by decide)
        · refine ⟨_, _, acc ++ [.ref u], rfl, fun c' o z => ?_, upd_same, ?_⟩
          · rw [upd_ne (ne_of_none z hM)]
            exact s4 _ _ (st _ _ (s' _ _ z))
          · rw [hn, show LF.mstep cs ((rows.zipIdx.take i).foldl (LF.mstep cs) []) (r, i) = ((rows.zipIdx.take i).foldl (LF.mstep cs) []) ++ [LF.renum (LF.at_ cs) r] from if_pos e']
            exact Ea.push (he'.imp fun c' r' q => isR.lst (show isR H4 c' r' from s4 _ _ q) hm4) (isR.lst hu4 hm4)
      · have e' : ¬ LF.at_ cs i = ((rows.zipIdx.take i).foldl (LF.mstep cs) []).length := by
          intro z
          exact e (by rw [hal, z])
        refine ⟨_, _, acc, rfl, fun c' o z => st _ _ (s' _ _ z), hm', ?_⟩
        rw [hn, show LF.mstep cs ((rows.zipIdx.take i).foldl (LF.mstep cs) []) (r, i) = ((rows.zipIdx.take i).foldl (LF.mstep cs) []) from if_neg e']
        exact he'
    · rintro σ' H' ⟨x3, x4, acc, rfl, s', hm, he⟩
      have hz : refs.length = rows.zipIdx.length := by simp [hlr]
      rw [hz, List.take_length] at he
      exact ⟨_, rfl, kk M H' acc hm he hM s'⟩
end
end PA

set_option maxHeartbeats 8000000
namespace PA
open PySem L2 RZ
open C8 (pss_cut tCut)
theorem visit_nil (rows : List Rn) (f : Nat) (s : List Nat) : LF.visit rows f [] s = s := by
  cases f <;> rfl
theorem ents_snoc (s : List Nat) (x : Nat) : ents (s ++ [x]) = ents s ++ [(ki x, V.int ((s.length : Nat) : Int))] := by
  have := tab_snoc (f := ki) s 0 x
  rw [Nat.zero_add] at this
  exact this
def spVisit : Sp := fun vs H Q _ => ∃ (M B : Addr) (refs : List V) (rows : List Rn) (b : List Nat), vs = [.ref M, .ref B] ∧ H M = some (.lst refs) ∧ Ea H isR refs rows ∧ H B = some (.lst (natsV b)) ∧ LF.TOk rows ∧ (∀ x ∈ b, x < rows.length) ∧ rows.length ≤ 3000 ∧ b.length ≤ 100 ∧
  ∀ d H', H' d = some (.dK (ents (LF.ord rows b))) → H d = none → Same H H' → Q (.ref d) H'
section
variable {P : Program} {w : World} {K : PySem.W.Frag} {mg : Str → Option Value} {base : Heap} {C : Addr}
theorem scVisit : FnScope ["rows", "starts", "numbers", "waiting", "state"] ["rows", "starts"] (defScope sVisit) := ⟨rfl, rfl, rfl, by decide +kernel, rfl, by decide +kernel, by decide +kernel⟩
theorem ok_visit {f : Addr} {fd : FuncData} (F : Fun K "_visit_numbers" "_visit_numbers" sVisit f fd) (T : Txt K mg) : FnOk P w K mg base CX0 1 f fd ["rows", "starts"] spVisit := by
  refine F.ok scVisit (fun vs H Q E h => ?_) (fun cdv A outer s H vs Q E hr h => ?_)
  · obtain ⟨M, B, _, _, _, rfl, _⟩ := h
    rfl
  · obtain ⟨M, B, refs, rows, b, rfl, hM, hE, hB, ok, hb, hsz, hb100, kk⟩ := h
    have hu := u1 hr.units
    refine ⟨_, pss_cons (ps_set (i := 2) scVisit.nd rfl (Or.inl rfl) pe_dnewK)
      (pss_cons (ps_set (i := 3) scVisit.nd rfl (Or.inl rfl) (pe_callTy call_list_of (by rfl) T.list_ boot_list' (pa_cons (pv 1) pa_nil)))
      (pss_cons (ps_while PassesOwn.never (pt_truth (pv 3) (fun _ => rfl))
        (pss_cons (ps_set (i := 4) scVisit.nd rfl (Or.inl rfl) (pe_bm PySem.F.plainAttrs_list PySem.F.slot_list_pop PySem.F.type_list_pop mt_popAt (pv 3) (pa_cons pe_int pa_nil)))
        (pss_one (ps_if (pt_cmp (pc_dnotin hu (pv 4) (pv 2)))
          (pss_cons (ps_dput hu (pv 2) (pv 4) (pe_callB call_lenD (by rfl) T.len_ PySem.boot_len (pa_cons (pv 2) pa_nil)) rfl)
          (pss_cons (ps_expr (pe_bm PySem.F.plainAttrs_list PySem.F.slot_list_append PySem.F.type_list_append mt_append (pv 3) (pa_cons (pe_ix ix_tup (pe_ix ix_list (pv 0) (pv 4) (fun _ _ => rfl)) pe_int (fun _ _ => rfl)) pa_nil)))
          (pss_one (ps_expr (pe_bm PySem.F.plainAttrs_list PySem.F.slot_list_append PySem.F.type_list_append mt_append (pv 3) (pa_cons (pe_ix ix_tup (pe_ix ix_list (pv 0) (pv 4) (fun _ _ => rfl)) pe_int (fun _ _ => rfl)) pa_nil)))))) pss_nil))))
      (pss_one (ps_ret (pv 2))))), ?_⟩
    refine fun d hd => ?_
    have sd := new_ (o := .dK []) hd
    refine ⟨_, rfl, B, _, rfl, .inl (SqL.of (sd _ _ hB)), fun wl hwl => ?_⟩
    have sw := new_ (o := .lst (natsV b)) hwl
    have hd2 := sw _ _ (show (upd H d (.dK [])) d = some (.dK []) from upd_same)
    refine ⟨fun m σ' H' => ∃ f w s x4, m = f ∧ σ' = [some (.ref M), some (.ref B), some (.ref d), some (.ref wl), x4] ∧ Same H H' ∧ H' d = some (.dK (ents s)) ∧ H' wl = some (.lst (natsV w)) ∧ LF.VOk rows w s ∧ LF.need rows w s ≤ f ∧ f ≤ 10000 ∧ LF.visit rows f w s = LF.ord rows b, ⟨b.length + 2 * rows.length, _, b, [], none, rfl, rfl, sd.trans sw, hd2, upd_same, ⟨ok, hb, fun x hx => (List.not_mem_nil hx).elim, List.nodup_nil⟩, by unfold LF.need; simp, by omega, rfl⟩, ?_⟩
    rintro m σ' H' ⟨f, w', s', x4, rfl, rfl, sm, hdd, hww, v, hnd, hfb, hv⟩
    have hwl0 : H wl = none := Same.none sd hwl
    cases w' with
    | nil =>
      rw [visit_nil] at hv
      refine ⟨_, rfl, false, .inl ⟨_, SqL.of hww, rfl⟩, iteF ⟨_, rfl, kk d H' ?_ hd sm⟩⟩
      rw [← hv]
      exact hdd
    | cons x w1 =>
      obtain ⟨f, rfl⟩ : ∃ f', m = f' + 1 := by
        cases m with
        | zero => unfold LF.need at hnd; simp at hnd
        | succ f' => exact ⟨f', rfl⟩
      have hxr : x < rows.length := v.hw x List.mem_cons_self
      have hr' : rows[x]? = some rows[x] := List.getElem?_eq_getElem hxr
      have hwl1 : w1.length ≤ 10000 := by
        unfold LF.need at hnd
        rw [List.length_cons] at hnd
        omega
      have hpop : (natsV (x :: w1)).eraseIdx 0 = natsV w1 := rfl
      refine ⟨_, rfl, true, .inl ⟨_, SqL.of hww, rfl⟩, iteT ⟨fun σ2 H2 => ∃ w s x4, σ2 = [some (.ref M), some (.ref B), some (.ref d), some (.ref wl), x4] ∧ Same H H2 ∧ H2 d = some (.dK (ents s)) ∧ H2 wl = some (.lst (natsV w)) ∧ LF.VOk rows w s ∧ LF.need rows w s ≤ f ∧ LF.visit rows f w s = LF.ord rows b, ?_, ?_⟩⟩
      · rintro σ2 H2 ⟨w2, s2, x4', rfl, q1, q2, q3, q4, q5, q6⟩
        exact ⟨f, Nat.lt_succ_self f, f, w2, s2, x4', rfl, rfl, q1, q2, q3, q4, q5, by omega, q6⟩
      refine ⟨_, rfl, .inl ⟨rfl, _, SqL.of hww⟩, wl, _, 0, 0, .int ((x : Nat) : Int), rfl, rfl, hww, by decide, by decide, (ixN_seq (Evl.ixN_nat (j := 0) (by simp [natsV]))).1, rfl, ?_⟩
      rw [hpop]
      have nwd : d ≠ wl := ne_of hdd hww (by intro z; cases z)
      have hdd2 : (upd H' wl (.lst (natsV w1))) d = some (.dK (ents s')) := by rw [upd_ne nwd]; exact hdd
      have sm2 : Same H (upd H' wl (.lst (natsV w1))) := fun c o z => by rw [upd_ne (ne_of_none z hwl0)]; exact sm _ _ z
      have hww2 : (upd H' wl (.lst (natsV w1))) wl = some (.lst (natsV w1)) := upd_same
      generalize upd H' wl (.lst (natsV w1)) = H3 at hdd2 sm2 hww2
      refine ⟨_, rfl, _, rfl, d, _, rfl, DGet.k (k := ki x) hdd2, _, rfl, ?_⟩
      rw [ents_val]
      by_cases hm : x ∈ s'
      · rw [if_pos hm]
        rw [LF.visit_old hm] at hv
        refine iteF ⟨w1, s', _, rfl, sm2, hdd2, hww2, v.old, ?_, hv⟩
        unfold LF.need at hnd ⊢
        rw [List.length_cons] at hnd
        omega
      · rw [if_neg hm]
        rw [LF.visit_new hm hr'] at hv
        have hval : valV (ents s') (ki x) = none := by rw [ents_val, if_neg hm]
        have hroom := v.room hm
        have hnew := LF.need_new (r := rows[x]) v hm
        obtain ⟨c, hxc, hcc⟩ := hE.get hr'
        refine iteT ?_
        have hle : (ents s').length = s'.length := tab_len _ _
        have hput := DPut.k (k := ki x) (v := V.int ((ents s').length : Int)) hdd2 (by rw [hle]; exact Nat.lt_of_lt_of_le hroom (Nat.le_trans hsz (by decide)))
        rw [putK_new _ hval, hle, ← ents_snoc] at hput
        refine ⟨_, rfl, d, _, rfl, hdd2, _, rfl, _, rfl, d, _, rfl, by rw [hle]; exact hput, ?_⟩
        have hdd4 : (upd H3 d (.dK (ents (s' ++ [x])))) d = some (.dK (ents (s' ++ [x]))) := upd_same
        have hww4 : (upd H3 d (.dK (ents (s' ++ [x])))) wl = some (.lst (natsV w1)) := by rw [upd_ne nwd.symm]; exact hww2
        have sm4 : Same H (upd H3 d (.dK (ents (s' ++ [x])))) := fun c o z => by rw [upd_ne (ne_of_none z hd)]; exact sm2 _ _ z
        generalize upd H3 d (.dK (ents (s' ++ [x]))) = H4 at hdd4 hww4 sm4
        have hsz1 : (natsV w1).length < sizeLine := by
          unfold natsV
          rw [List.length_map]
          exact Nat.lt_of_le_of_lt hwl1 (by decide)
        refine ⟨_, rfl, .inl ⟨rfl, _, SqL.of hww4⟩, _, rfl, _, rfl, M, _, _, _, rfl, rfl, SqL.of (sm4 _ _ hM), atI_nat hxc, c, _, 0, _, rfl, rfl, SqT.of (sm4 _ _ hcc), rfl, wl, _, _, rfl, rfl, hww4, hsz1, ?_⟩
        have e1 : natsV w1 ++ [V.int ((rows[x].1 : Nat) : Int)] = natsV (w1 ++ [rows[x].1]) := by unfold natsV; simp
        have hww5 : (upd H4 wl (.lst (natsV w1 ++ [V.int ((rows[x].1 : Nat) : Int)]))) wl = some (.lst (natsV (w1 ++ [rows[x].1]))) := by rw [e1]; exact upd_same
        have sm5 : Same H (upd H4 wl (.lst (natsV w1 ++ [V.int ((rows[x].1 : Nat) : Int)]))) := fun c o z => by rw [upd_ne (ne_of_none z hwl0)]; exact sm4 _ _ z
        have hdd5 : (upd H4 wl (.lst (natsV w1 ++ [V.int ((rows[x].1 : Nat) : Int)]))) d = some (.dK (ents (s' ++ [x]))) := by rw [upd_ne nwd]; exact hdd4
        refine ⟨_, rfl, .inl ⟨rfl, _, SqL.of hww5⟩, _, rfl, _, rfl, M, _, _, _, rfl, rfl, SqL.of (sm5 _ _ hM), atI_nat hxc, c, _, 2, _, rfl, rfl, SqT.of (sm5 _ _ hcc), rfl, wl, _, _, rfl, rfl, hww5, ?_, ?_⟩
        · unfold natsV
          rw [List.length_map, List.length_append]
          exact Nat.lt_of_le_of_lt (Nat.add_le_add_right hwl1 _) (by show 10000 + 1 < sizeLine; decide)
        have e2 : natsV (w1 ++ [rows[x].1]) ++ [V.int ((rows[x].2.2.1 : Nat) : Int)] = natsV (w1 ++ [rows[x].1, rows[x].2.2.1]) := by unfold natsV; simp
        refine ⟨w1 ++ [rows[x].1, rows[x].2.2.1], s' ++ [x], _, rfl, fun c o z => by rw [upd_ne (ne_of_none z hwl0)]; exact sm5 _ _ z, by rw [upd_ne nwd]; exact hdd5, by rw [← e2]; exact upd_same, v.new hm hr', by omega, hv⟩
end
end PA

set_option maxHeartbeats 8000000
namespace PA
open PySem L2 RZ
open C8 (pss_cut tCut)
theorem walk_kx {d : Addr} {o : Obj} {kvs : List (Key × V)} : Walk (Itk d o kvs) kvs.length (fun H => H d = some (.frz o (.dK kvs))) (YAt (kvs.map fun x => kV x.1)) := by
  have wk := walk_keys (d := d) (o := o) (kvs := kvs)
  refine ⟨wk.1, wk.2, fun i H x H' hi q y => ?_⟩
  obtain ⟨rfl, k, v, e, rfl⟩ := wk.3 i H x H' hi q y
  refine ⟨rfl, ?_⟩
  show (kvs.map fun x => kV x.1)[i]? = some (kV k)
  rw [List.getElem?_map, e]
  rfl
theorem ents_keys (o : List Nat) : (ents o).map (fun x => kV x.1) = natsV o := by
  unfold ents tab natsV
  rw [List.map_map]
  refine List.ext_getElem? fun i => ?_
  rw [List.getElem?_map, List.getElem?_map, List.getElem?_zipIdx]
  cases o[i]? <;> rfl
def spLeastF (K : PySem.W.Frag) : Sp := fun vs H Q _ => ∃ (R S : Addr) (k k2 : L2.Kind) (refs : List V) (rows : List Rn) (st : List Nat), vs = [.ref R, .ref S] ∧ Sk K k H R refs ∧ Ea H isR refs rows ∧ Sk K k2 H S (natsV st) ∧ LF.TOk rows ∧ (∀ x ∈ st, x < rows.length) ∧ rows.length ≤ 3000 ∧ st.length ≤ 100 ∧
  ∀ t T1 T2 refs' H', H' t = some (.tup [.ref T1, .ref T2]) → H' T1 = some (.tup refs') → Ea H' isR refs' (LF.lf rows st).1 → H' T2 = some (.tup (natsV (LF.lf rows st).2)) → Same H H' → Q (.ref t) H'
/-- what the least form reaches -/
structure LibF (K : PySem.W.Frag) (mg : Str → Option Value) (f1 f2 f3 f4 f5 f6 f7 : Addr) (d1 d2 d3 d4 d5 d6 d7 : FuncData) : Prop where
  hen : mg "enumerate" = none
  F1 : Df K mg "least_form" sLeastF f1 d1 ["rows", "starts"]
  F2 : Df K mg "_classes" sClasses f2 d2 ["rows"]
  F3 : Df K mg "_split" sSplit f3 d3 ["rows", "classes"]
  F4 : Df K mg "_numbered" sNumbered f4 d4 ["keys"]
  F5 : Df K mg "_merged" sMerged f5 d5 ["rows", "classes"]
  F6 : Df K mg "_renumbered" sRenum f6 d6 ["row", "numbers"]
  F7 : Df K mg "_visit_numbers" sVisit f7 d7 ["rows", "starts"]
section
variable {P : Program} {w : World} {K : PySem.W.Frag} {mg : Str → Option Value} {base : Heap} {C f1 f2 f3 f4 f5 f6 f7 : Addr} {d1 d2 d3 d4 d5 d6 d7 : FuncData}
theorem scLeastF : FnScope ["rows", "starts", "classes", "merged", "begins", "numbers", "least_rows", "state"] ["rows", "starts"] (defScope sLeastF) := ⟨rfl, rfl, rfl, by decide +kernel, rfl, by decide +kernel, by decide +kernel⟩
theorem ok_leastF (T : Txt K mg) (L : LibF K mg f1 f2 f3 f4 f5 f6 f7 d1 d2 d3 d4 d5 d6 d7) : FnOk P w K mg base CX0 4 f1 d1 ["rows", "starts"] (spLeastF K) := by
  have G2 : FnOk P w K mg base CX0 3 f2 d2 ["rows"] (spClasses K) := ok_classes L.F2.F T L.hen L.F4 L.F3
  have G5 : FnOk P w K mg base CX0 2 f5 d5 ["rows", "classes"] (spMerged K) := ok_merged L.F5.F T L.hen L.F6
  have G6 : FnOk P w K mg base CX0 1 f6 d6 ["row", "numbers"] spRenD := ok_renD L.F6.F
  have G7 : FnOk P w K mg base CX0 1 f7 d7 ["rows", "starts"] spVisit := ok_visit L.F7.F T
  refine L.F1.F.ok scLeastF (fun vs H Q E h => ?_) (fun cdv A outer s H vs Q E hr h => ?_)
  · obtain ⟨R, S, _, _, _, _, _, rfl, _⟩ := h
    rfl
  · obtain ⟨R, S, k, k2, refs, rows, st, rfl, hR, hE, hS, ok, hst, hsz, hs100, kk⟩ := h
    have hr2 : Room 2 _ := hr.mono (by decide)
    have hr1 : Room 1 _ := hr.mono (by decide)
    have hu := u1 hr.units
    refine ⟨_, pss_cons (ps_set (i := 2) scLeastF.nd rfl (Or.inr rfl) (pe_call G2 hr rfl L.F2.M L.F2.F.kp L.F2.B .nil pass0 (pa_cons (pv 0) pa_nil)))
      (pss_cons (ps_set (i := 3) scLeastF.nd rfl (Or.inr rfl) (pe_call G5 hr2 rfl L.F5.M L.F5.F.kp L.F5.B .nil pass0 (pa_cons (pv 0) (pa_cons (pv 2) pa_nil))))
      (pss_cons (ps_setLc (i := 4) (own := [("state", 7)]) (g := gName 7) (tt := tYes) (by rfl) scLeastF.nd rfl rfl (sw_true rfl rfl rfl (by decide +kernel)) (pi_sq (pv 1)) (blkOk_by (N := ["rows", "starts", "classes", "merged", "begins", "numbers", "least_rows", "state"]) (sc := defScope sLeastF) (by decide +kernel))
          (fun _ _ _ _ _ => pg_name (i := 7) scLeastF.nd rfl (Or.inl rfl)) (fun _ _ _ _ _ => pts_nil) (fun _ _ _ _ _ => pe_ix (ix_listK (K := K) rfl) (pv 2) (pv 7) (fun _ _ => rfl)))
      (pss_cons (ps_set (i := 5) scLeastF.nd rfl (Or.inr rfl) (pe_call G7 hr1 rfl L.F7.M L.F7.F.kp L.F7.B .nil pass0 (pa_cons (pv 3) (pa_cons (pv 4) pa_nil))))
      (pss_cons (ps_set (i := 6) scLeastF.nd rfl (Or.inl rfl) (pe_callTy call_tuple_of (by rfl) T.tup_ boot_tuple' (pa_cons (pe_lock (pe_lc (own := [("state", 7)]) (g := gName 7) (tt := tYes) (by rfl) scLeastF.nd (pi_keys (pv 5)) (blkOk_by (N := ["rows", "starts", "classes", "merged", "begins", "numbers", "least_rows", "state"]) (sc := defScope sLeastF) (by decide +kernel))
          (fun _ _ _ _ _ => pg_name (i := 7) scLeastF.nd rfl (Or.inl rfl)) (fun _ _ _ _ _ => pts_nil) (fun _ _ _ _ _ => pe_call G6 hr1 rfl L.F6.M L.F6.F.kp L.F6.B .nil pass0 (pa_cons (pe_ix (ix_listK (K := K) rfl) (pv 3) (pv 7) (fun _ _ => rfl)) (pa_cons (pv 5) pa_nil))))) pa_nil)))
      (pss_one (ps_ret (pe_tup (pa_cons (pv 6) (pa_cons (pe_callTy call_tuple_of (by rfl) T.tup_ boot_tuple' (pa_cons (pe_lc (own := [("state", 7)]) (g := gName 7) (tt := tYes) (by rfl) scLeastF.nd (pi_list (pv 4)) (blkOk_by (N := ["rows", "starts", "classes", "merged", "begins", "numbers", "least_rows", "state"]) (sc := defScope sLeastF) (by decide +kernel))
          (fun _ _ _ _ _ => pg_name (i := 7) scLeastF.nd rfl (Or.inl rfl)) (fun _ _ _ _ _ => pts_nil) (fun _ _ _ _ _ => pe_dget hu (pv 5) (pv 7) (fun _ _ => rfl))) pa_nil)) pa_nil))))))))), ?_⟩
    have mok := LF.mg_ok ok
    have bl := LF.b_lt hst
    generalize hbd : st.map (LF.at_ (LF.cls rows)) = b at bl
    have hord := LF.ord_end mok bl
    have clen : (LF.cls rows).length = rows.length := LF.cls_len
    have mle : (LF.mg rows).length ≤ rows.length := LF.mg_le
    have hlf : LF.lf rows st = (LF.laid (LF.mg rows) (LF.ord (LF.mg rows) b), b.map (LF.ix (LF.ord (LF.mg rows) b))) := by
      unfold LF.lf
      rw [hbd]
    have hblen : b.length = st.length := by rw [← hbd, List.length_map]
    generalize ho : LF.ord (LF.mg rows) b = o at hord hlf
    have hclo := hord.closed (fun x hx => (List.not_mem_nil hx).elim)
    refine ⟨_, rfl, R, k, refs, rows, rfl, hR, hE, ok, hsz, fun cl H1 hcl hcl0 s1 => ?_⟩
    refine ⟨_, rfl, _, rfl, R, cl, k, refs, rows, LF.cls rows, rfl, hR.up s1, hE.imp (fun c r q => s1 _ _ q), hcl, clen, ok, hsz, fun i hi => ?_, fun M H2 mrefs hM hME hM0 s2 => ?_⟩
    · rw [(LF.merged_pre LF.cls_numb clen i hi).1]
      exact Nat.le_trans (LF.uniq_len _) (by rw [List.length_take]; omega)
    have s12 := s1.trans s2
    refine ⟨k2, _, rfl, S, rfl, ⟨_, hS.up s12⟩, fun Bd hBd => ?_⟩
    refine lc_same (xs := natsV st) (walk_k (k := k2)) (by unfold natsV; rw [List.length_map]; exact Nat.le_trans hs100 (by decide)) hBd (fun H' s' => (hS.up s12).up s') (natsV b) (by unfold natsV; rw [List.length_map, List.length_map, hblen]) (fun i x y H' Φ Ψ hx hy sm kf => ?_) fun H3 s3 hB3 => ?_
    · unfold natsV at hx hy
      rw [List.getElem?_map, Option.map_eq_some_iff] at hx
      obtain ⟨z, hz, rfl⟩ := hx
      rw [← hbd, List.getElem?_map, List.getElem?_map, hz] at hy
      cases hy
      refine ⟨rfl, ?_⟩
      dsimp only [tYes]
      rw [if_pos rfl]
      exact ⟨_, rfl, _, rfl, cl, _, _, _, rfl, rfl, SqL.of (sm _ _ (s2 _ _ hcl)), nat_at (by rw [clen]; exact hst z (List.mem_of_getElem? hz)), kf H' fun _ _ e => e⟩
    have hM3 := s3 _ _ hM
    have hE3 : Ea H3 isR mrefs (LF.mg rows) := hME.imp fun c r q => s3 _ _ q
    refine ⟨_, rfl, _, rfl, M, Bd, mrefs, LF.mg rows, b, rfl, hM3, hE3, hB3, mok, bl, by omega, by omega, fun d H4 hd4 hd0 s4 => ?_⟩
    rw [ho] at hd4
    have hM4 := s4 _ _ hM3
    refine ⟨d, _, hd4, trivial, fun od => ⟨_, rfl, d, od, rfl, .inl ⟨ents o, upd_same, fun Dd hD => ?_⟩⟩⟩
    have hlo : o.length ≤ (LF.mg rows).length := LF.few _ hord.nd hord.lt
    have frz0 : (upd H4 d (.frz od (.dK (ents o)))) d = some (.frz od (.dK (ents o))) := upd_same
    have nMd : M ≠ d := ne_of hM4 hd4 (by intro z; cases z)
    have mt : ∀ c o', H4 c = some o' → c ≠ d → (upd H4 d (.frz od (.dK (ents o)))) c = some o' := fun c o' e hc => by rw [upd_ne hc]; exact e
    have hMf := mt _ _ hM4 nMd
    have hEf : Ea (upd H4 d (.frz od (.dK (ents o)))) isR mrefs (LF.mg rows) := hE3.imp fun c r q => mt _ _ (s4 _ _ q) (ne_of (H := H4) (s4 _ _ q) hd4 (by intro z; cases z))
    have hEv : ∀ c o', H4 c = some o' → c ≠ d → (upd H4 d (.frz od (.dK (ents o)))) c = some o' := mt
    generalize hFz : upd H4 d (.frz od (.dK (ents o))) = Hf at hD frz0 hMf hEf hEv
    have hlg : (LF.laid (LF.mg rows) o).length = o.length := LF.laid_len _ hord.lt
    refine lc_acc (walk_kx (d := d) (o := od) (kvs := ents o)) (by rw [tab_len]; exact Nat.le_trans (by omega : o.length ≤ 3000) (by decide)) hD (fun H' s' => s' _ _ frz0) (fun i acc H' => Ea H' isR acc ((LF.laid (LF.mg rows) o).take i)) (fun i acc H' e => by rw [e.1, List.length_take]; omega) (by rw [List.take_zero]; exact Ea.nil) (fun i x H' acc Φ Ψ hi hx sm hd' he kf => ?_) fun H5 acc s5 hd5 he5 => ?_
    · rw [ents_keys] at hx
      unfold natsV at hx
      rw [List.getElem?_map, Option.map_eq_some_iff] at hx
      obtain ⟨z, hz, rfl⟩ := hx
      have hzm := List.mem_of_getElem? hz
      have hzl := hord.lt z hzm
      have hr' : (LF.mg rows)[z]? = some (LF.mg rows)[z] := List.getElem?_eq_getElem hzl
      obtain ⟨c, hxc, hcc⟩ := hEf.get hr'
      obtain ⟨q1, q2⟩ := hclo z hzm _ hr'
      refine ⟨rfl, ?_⟩
      dsimp only [tYes]
      rw [if_pos rfl]
      refine ⟨_, rfl, _, rfl, M, _, _, _, rfl, rfl, SqL.of (sm _ _ hMf), atI_nat hxc, _, rfl, c, d, _, o, rfl, sm _ _ hcc, .inr ⟨od, sm _ _ frz0⟩, q1, q2, fun t H6 s6 ht6 => kf _ H6 s6 (s6 _ _ hd') fun H7 h7 b1 b2 => ?_⟩
      have hg : (LF.laid (LF.mg rows) o)[i]? = some (LF.renum (LF.ix o) (LF.mg rows)[z]) := by
        unfold LF.laid
        rw [LF.laid_get _ hord.lt, hz]
        simp [hr']
      rw [L2.take_succ' hg]
      exact Ea.push (he.imp fun c' r' q => b1 _ _ (ne_of (s6 _ _ q) (s6 _ _ hd') (by intro z; cases z)) (s6 _ _ q)) (b1 _ _ (ne_of ht6 (s6 _ _ hd') (by intro z; cases z)) ht6)
    rw [tab_len, ← hlg, List.take_length] at he5
    refine ⟨s5 _ _ frz0, ?_⟩
    have hdn : H4 Dd = none := by
      by_cases e : Dd = d
      · rw [e] at hD
        rw [frz0] at hD
        cases hD
      · rw [← hFz, upd_ne e] at hD
        exact hD
    have nDd : Dd ≠ d := fun e => by rw [e, hd4] at hdn; cases hdn
    have s45 : Same H4 (upd H5 d (.dK (ents o))) := fun c o' e => by
      by_cases hc : c = d
      · subst hc
        rw [hd4] at e
        cases e
        exact upd_same
      · rw [upd_ne hc]
        exact s5 _ _ (hEv _ _ e hc)
    have hDd5 : (upd H5 d (.dK (ents o))) Dd = some (.lst acc) := by rw [upd_ne nDd]; exact hd5
    have he6 : Ea (upd H5 d (.dK (ents o))) isR acc (LF.laid (LF.mg rows) o) := he5.imp fun c r q => by
      have : H5 c = some (.tup (rv (rz r))) := q
      show (upd H5 d (.dK (ents o))) c = some (.tup (rv (rz r)))
      rw [upd_ne (ne_of this (s5 _ _ frz0) (by intro z; cases z))]
      exact this
    have hd6 : (upd H5 d (.dK (ents o))) d = some (.dK (ents o)) := upd_same
    generalize upd H5 d (.dK (ents o)) = H6 at s45 hDd5 he6 hd6
    refine ⟨Dd, _, rfl, .inl ⟨SqL.of hDd5, fun T1 hT1 => ?_⟩⟩
    have e1 := new_ (o := .tup acc) hT1
    have hB6 := e1 _ _ (s45 _ _ (s4 _ _ hB3))
    have hT11 : (upd H6 T1 (.tup acc)) T1 = some (.tup acc) := upd_same
    have he7 : Ea (upd H6 T1 (.tup acc)) isR acc (LF.laid (LF.mg rows) o) := he6.imp fun c r q => e1 _ _ q
    have hd7 := e1 _ _ hd6
    have s47 := s45.trans e1
    generalize upd H6 T1 (.tup acc) = H7 at hB6 hT11 he7 hd7 s47
    refine ⟨_, rfl, _, rfl, Bd, rfl, ⟨_, SqL.of hB6⟩, fun De hDe => ?_⟩
    refine lc_same (xs := natsV b) (walk_l (K := K) (a := Bd) (xs := natsV b)) (by unfold natsV; rw [List.length_map, hblen]; exact Nat.le_trans hs100 (by decide)) hDe (fun H' s' => SqL.of (s' _ _ hB6)) (natsV (b.map (LF.ix o))) (by unfold natsV; simp) (fun i x y H' Φ Ψ hx hy sm kf => ?_) fun H8 s8 hd8 => ?_
    · unfold natsV at hx hy
      rw [List.getElem?_map, Option.map_eq_some_iff] at hx
      obtain ⟨z, hz, rfl⟩ := hx
      rw [List.getElem?_map, List.getElem?_map, hz] at hy
      cases hy
      have hzo := hord.all z (List.mem_of_getElem? hz)
      have hv := ents_val o z
      rw [if_pos hzo] at hv
      refine ⟨rfl, ?_⟩
      dsimp only [tYes]
      rw [if_pos rfl]
      exact ⟨_, rfl, _, rfl, d, _, rfl, .inl ⟨ents o, ki z, .inl (sm _ _ hd7), rfl, hv.symm⟩, kf H' fun _ _ e => e⟩
    refine ⟨De, _, rfl, .inl ⟨SqL.of hd8, fun T2 hT2 => ⟨by show 2 ≤ sizeLine; decide, fun tp htp => ?_⟩⟩⟩
    have e2 := new_ (o := .tup (natsV (b.map (LF.ix o)))) hT2
    have e3 := new_ (o := .tup [.ref T1, .ref T2]) htp
    have e23 := s8.trans (e2.trans e3)
    refine kk tp T1 T2 acc _ upd_same (e23 _ _ hT11) ?_ ?_ ((s12.trans s3).trans ((s4.trans s47).trans e23))
    · rw [hlf]
      exact he7.imp fun c r q => e23 _ _ q
    · rw [hlf]
      exact e3 _ _ upd_same
end
end PA

set_option maxHeartbeats 2000000
/-! d.get(x) of a dict whose keys are tuples, x a tuple or None; a display with one such key -/
namespace L2
open PySem PySem.Spec PyProof.Rows
abbrev hNon (P : Program) (w : World) : Int := (leafKind P w).hash Leaf.none
/-- None doesn't count as a key there -/
def NoNon (P : Program) (w : World) (ps : List (LKey × V)) : Prop := ∀ p ∈ ps, (dxK P w).hash p.1 ≠ hNon P w
section
variable {P : Program} {w : World} {A : Around} {E : Value → Shared → Prop} {s : Shared} {d : Addr} {xs : List DW}
theorem get_non {Q : Option Value → Shared → Prop} (hm : s.heap.DictOfH (dxK P w) d xs) (hne : ∀ x ∈ xs, (dxK P w).hash x.1 ≠ hNon P w) (h : Q none { s with toks := s.toks + 1 }) : wpAny (model P w) A (dictGet d .none) Q E s := by
  obtain ⟨o, es, ep, ho, _, hd, he, _, _⟩ := hm
  have hp : placesWithHash es.size (fun i => es[i]?.map (·.hash)) (hNon P w) = [] := by
    unfold placesWithHash
    refine List.filter_eq_nil_iff.mpr fun i hi => ?_
    have hi' : i < es.size := List.mem_range.mp hi
    have h1 : es.toList[i]? = some es[i] := by rw [Array.getElem?_toList]; exact Array.getElem?_eq_getElem hi'
    rw [he, List.getElem?_map, Option.map_eq_some_iff] at h1
    obtain ⟨x, hx, e⟩ := h1
    have h2 := hne x (List.mem_of_getElem? hx)
    dsimp only
    rw [Array.getElem?_eq_getElem hi', ← e]
    intro z
    refine h2 ?_
    simpa [entryOfKey] using z
  unfold dictGet
  try with_reducible refine wpAny_holding ?_
  refine wpAny_bind ((leafKind P w).pyHash (k := Leaf.none) (v := .none) rfl (wpAny_bind ?_))
  unfold dictFind
  try with_reducible refine wpAny_holding ?_
  refine wpAny_bind (wpAny_dictEntries (s := { s with toks := s.toks + 1 }) ho hd ?_)
  dsimp only
  rw [hp]
  rw [if_pos (by rfl)]
  unfold dictWalkPlain
  rw [List.forIn_nil]
  exact wpAny_bind (wpAny_pure (wpAny_pure (wpAny_pure h)))
end
/-- {k: v}; the new dict stands empty while they are made -/
def tDisp1 (P : Program) (w : World) (tk tv : TE) : TE := fun σ H Q => ∀ p, H p = none → tk σ (upd H p (DX P w p [])) fun x H1 => tv σ H1 fun y H2 => ∃ b key, x = .ref b ∧ H2 p = some (DX P w p []) ∧ KeyAt H2 b key ∧ Q (.ref p) (upd H2 p (DX P w p [(key, b, y)]))
theorem one_of {F : V → V → Prop} {ps : List (V × V)} (h : match ps with | [(x, y)] => F x y | _ => False) : ∃ x y, ps = [(x, y)] ∧ F x y := by
  match ps, h with
  | [(x, y)], h => exact ⟨x, y, rfl, h⟩
theorem vv_one {x y : V} {ws : List (Value × Value)} (r : VV [(x, y)] ws) : ∃ u v, ws = [(u, v)] ∧ RelV x u ∧ RelV y v := by
  cases r with
  | cons h t =>
    cases t
    exact ⟨_, _, rfl, h.1, h.2⟩
theorem pe_disp1 {X : Cx} {pos : Pos} {k v : PySem.Expr} {tk tv : TE} (hu : X.A.units + 1 < cLine) (hk : PE X k tk) (hv : PE X v tv) : PE X (.Dict [some k] [v] pos) (tDisp1 X.prog X.w tk tv) := by
  refine ⟨fun pins s σ H Q I q => ?_⟩
  have hn := I.hok.fresh (Nat.le_refl s.heap.objs.size)
  have I1 := I.laid (a := s.heap.objs.size) (o := DX X.prog X.w s.heap.objs.size []) (h' := s.heap.push { cls := .type "dict", data := .dict #[] }) (t' := s.toks) (fun _ _ q => Heap.get?_push_of_some _ q) (Nat.le_refl _)
    (dx_ok ⟨Nat.zero_le _, beq_eq_false_iff_ne.mpr (Ne.symm (Nat.ne_of_lt I.big)), [], .nil, _, #[], 0, Heap.get?_push_size _ rfl, ⟨rfl, rfl, rfl⟩, rfl, rfl, List.nodup_nil⟩)
  have hs : (evalEachOpt [some k] X.env).zip ((evalEach [v] X.env).map fun v => do let x ← v; standAt pos; pure x) = [(eval k X.env, (do let x ← eval v X.env; standAt pos; pure x : Sem Value))].map fun p => (some p.1, p.2) := rfl
  rw [arm_eval_Dict, hs, dictDisplay_pairs _ (by simp) (by simp)]
  have go := (pps_cons (pos := pos) hk hv pps_nil).run pins _ σ _ (fun ps H2 => match ps with | [(x, y)] => (fun x y => ∃ b key, x = .ref b ∧ H2 s.heap.objs.size = some (DX X.prog X.w s.heap.objs.size []) ∧ KeyAt H2 b key ∧ Q (.ref s.heap.objs.size) (upd H2 s.heap.objs.size (DX X.prog X.w s.heap.objs.size [(key, b, y)]))) x y | _ => False) I1 (q _ hn)
  refine wpAny_bind (wpAny_standAt (wpAny_bind (wpAny_subDictH (knd := dxK X.prog X.w) (Nat.lt_of_succ_lt hu) (by simp) (thn go fun ws s2 ⟨ps, H2, I2, rel, q3⟩ => ?_))))
  obtain ⟨x, y, rfl, q3⟩ := one_of q3
  obtain ⟨u, yv, rfl, r1, r2⟩ := vv_one rel
  obtain ⟨b, key, rfl, e, hkey, q2⟩ := q3
  · · cases (show u = .ref b from r1)
      obtain ⟨z, hd, xs0, r0, dd⟩ := dx_of I2.hok e (fun p hp => by cases hp)
      cases r0
      refine ⟨[(key, b, yv)], ⟨rfl, rfl, hkey.is I2.hok, True.intro⟩, dd, fun h' tk' dd' hs' => wpAny_pure ?_⟩
      have es : storedAllH [] [(key, b, yv)] = [(key, b, yv)] := rfl
      rw [es] at dd'
      obtain ⟨ob, en, ep', hq, h2, h3, h4, _, h5⟩ := dd'
      exact ⟨.ref s.heap.objs.size, _, I2.write (x := s.heap.objs.size) (e := s.heap.objs.size) (by rw [e]; exact True.intro) (.inl rfl) (fun c y hb z => (hs'.2 c hb).trans z) ⟨ob, hq⟩
        (dx_ok ⟨by show 1 ≤ sizeLine; decide, hd, _, .cons ⟨rfl, rfl, r2⟩ .nil, ob, en, ep', hq, h2, h3, h4, h5⟩), rfl, q2⟩
/-- d.get(x) -/
def tDxGet (P : Program) (w : World) (to te : TE) : TE := fun σ H Q => to σ H fun x H1 => ∃ d, x = .ref d ∧ (∃ kvs, H1 d = some (DX P w d kvs)) ∧ te σ H1 fun y H2 => ∃ ps, DxAt P w H2 d ps ∧ ((∃ b key, y = .ref b ∧ KeyAt H2 b key ∧ Q ((valV ps key).getD .non) H2) ∨ (y = .non ∧ NoNon P w ps ∧ Q .non H2))
theorem pe_dxget {X : Cx} {o e : PySem.Expr} {to te : TE} {apos cpos : Pos} (hu : X.A.units + 1 < cLine) (ho : PE X o to) (he : PE X e te)
    (h1 : attributeBase o "get" X.env (eval o X.env) = eval o X.env := by rfl)
    (h2 : ((((backTo cpos (starEach [e] X.env)).all fun x => !x.1) && (backToKw cpos (keywordEach [] X.env)).all fun x => x.1.isSome) && decide (([e].length + ([] : List Keyword).length + if ([] : List Keyword).isEmpty = true then 0 else 1) < 30)) = true := by rfl)
    (h3 : (apos.endLine == cpos.line) = true := by rfl)
    (h4 : backTo cpos (starEach [e] X.env) = [(false, eval e X.env)] := by rfl) :
    PE X ((o.Attribute "get" apos).Call [e] [] cpos) (tDxGet X.prog X.w to te) := by
  refine ⟨fun pins s σ H Q I h => wpAny_Call_method_late h1 h2 h3 h4 (thn (ho.run pins s σ H _ I h) fun v s1 q => ?_)⟩
  obtain ⟨x, H1, I1, rx, d, rfl, ⟨kv0, e0⟩, q⟩ := q
  cases rx
  obtain ⟨_, _, xs0, _, o0, es0, ep0, w1, w2, w3, _⟩ := (I1.hok d _ e0).1
  have ty0 : s1.TypeIs (.ref d) "dict" := ⟨_, w1, w2.1⟩
  refine ⟨"dict", "dict.get", PySem.F.plainAttrs_dict, PySem.F.slot_dict_get, PySem.F.type_dict_get, ty0, fun b hb => ?_, ?_⟩
  · cases hb
    exact ⟨_, w1, w2.2.1⟩
  · refine method1_meetsIn PySem.F.slot_dict_get PySem.F.entry_dict_get (thn (he.run pins s1 σ H1 _ I1 q) fun key s2 q2 => ?_)
    obtain ⟨yv, H2, I2, ry, ps, ⟨kvs, ek, rfl, ka⟩, q2⟩ := q2
    obtain ⟨z, hd, xs, rel, dd⟩ := dx_of I2.hok ek ka
    rcases q2 with ⟨b, key', rfl, hk, q2⟩ | ⟨rfl, hno, q2⟩
    · cases ry
      refine ⟨dd.typeIs, PySem.F.args_dict_get_2 _ _, _, meetsH_dict_get (dxK X.prog X.w) d b hd, tupleKind_room_in1 hu, key', xs, hk.is I2.hok, dd, ?_⟩
      refine ⟨_, H2, I2.tok _, ?_, q2⟩
      have r := dx_val rel key'
      cases h5 : valV (kvs.map fun p => (p.1, p.2.2)) key' with
      | none =>
        rw [h5] at r
        cases h6 : (atKey xs key').map (·.2) with
        | none => exact rfl
        | some u => rw [h6] at r; exact r.elim
      | some vv =>
        rw [h5] at r
        cases h6 : (atKey xs key').map (·.2) with
        | none => rw [h6] at r; exact r.elim
        | some u => rw [h6] at r; exact r
    · cases (show key = .none from ry)
      have hne : ∀ x ∈ xs, (dxK X.prog X.w).hash x.1 ≠ hNon X.prog X.w := by
        intro x hx
        obtain ⟨i, hi, e⟩ := List.getElem_of_mem hx
        have hl := Paired.length rel
        have hi' : i < kvs.length := by omega
        have hp : kvs[i].1 = x.1 := by
          have : ∀ {l : List DE} {m : List DW}, DRel l m → ∀ (i : Nat) (h1 : i < l.length) (h2 : i < m.length), l[i].1 = m[i].1 := by
            intro l m r
            induction r with
            | nil => intro i h1; cases h1
            | @cons p q ps qs hq t ih =>
              intro i h1 h2
              cases i with
              | zero => exact hq.1
              | succ i => exact ih i (Nat.lt_of_succ_lt_succ h1) (Nat.lt_of_succ_lt_succ h2)
          rw [← e]
          exact this rel i hi' hi
        rw [← hp]
        exact hno (kvs[i].1, kvs[i].2.2) (List.mem_map.mpr ⟨kvs[i], List.getElem_mem .., rfl⟩)
      refine ⟨dd.typeIs, PySem.F.args_dict_get_2 _ _, fun A R s => s.heap.DictOfH (dxK X.prog X.w) d xs ∧ R (.ok (.ret .none)) { s with toks := s.toks + 1 }, .of_wp fun A R s ⟨hm, hq⟩ => ?_, dd, V.non, H2, I2.tok _, rfl, q2⟩
      show wpAny _ _ (dictGet d .none >>= _) _ _ s
      refine wpAny_bind (get_non hm hne ?_)
      show wpAny _ _ (Builtin.Dict.missed d .none >>= _) _ _ _
      exact wpAny_bind (wpAny_missed_other hd (wpAny_pure ⟨.none, rfl, hq⟩))
theorem pe_dxgetK {X : Cx} {P : Program} {w : World} {o e : PySem.Expr} {to te : TE} {apos cpos : Pos} (hP : X.prog = P) (hw : X.w = w) (hu : X.A.units + 1 < cLine) (ho : PE X o to) (he : PE X e te)
    (h1 : attributeBase o "get" X.env (eval o X.env) = eval o X.env := by rfl)
    (h2 : ((((backTo cpos (starEach [e] X.env)).all fun x => !x.1) && (backToKw cpos (keywordEach [] X.env)).all fun x => x.1.isSome) && decide (([e].length + ([] : List Keyword).length + if ([] : List Keyword).isEmpty = true then 0 else 1) < 30)) = true := by rfl)
    (h3 : (apos.endLine == cpos.line) = true := by rfl)
    (h4 : backTo cpos (starEach [e] X.env) = [(false, eval e X.env)] := by rfl) :
    PE X ((o.Attribute "get" apos).Call [e] [] cpos) (tDxGet P w to te) := by
  subst hP hw
  exact pe_dxget hu ho he h1 h2 h3 h4
end L2

/-! row sets read together: what joined and the law's own walk find -/
namespace JM
abbrev Ln := Option Nat × Option Nat
variable {A B : List Ln} {Pl : List Ln} {d : Nat}
def sd (l : Ln) (c : Bool) : Option Nat := if c = true then l.2 else l.1
def en (A : List Ln) (i : Nat) (c : Bool) : Option Nat := (A[i]?).bind fun l => sd l c
structure LineOk (A : List Ln) : Prop where
  one : 0 < A.length
  ok : ∀ l ∈ A, ∀ c a, sd l c = some a → a < A.length
theorem en_lt (h : LineOk A) {i a : Nat} {c : Bool} (e : en A i c = some a) : a < A.length := by
  unfold en at e
  cases hl : A[i]? with
  | none => rw [hl] at e; cases e
  | some l =>
    rw [hl] at e
    exact h.ok l (List.mem_of_getElem? hl) c a e
theorem en_at {i : Nat} {c : Bool} {l : Ln} (h : A[i]? = some l) : en A i c = sd l c := by
  unfold en
  rw [h]
  rfl
/-- what follows a pair: of the two sides together (both), or while one of them goes on -/
def fol (e : Bool) (A B : List Ln) (p : Ln) (c : Bool) : Option Ln :=
  let one := p.1.bind fun i => en A i c
  let two := p.2.bind fun j => en B j c
  if (if e = true then one.isNone && two.isNone else one.isNone || two.isNone) = true then none else some (one, two)
inductive Rc (A B : List Ln) : Nat → Nat → Prop
  | z : Rc A B 0 0
  | s {i j i' j' : Nat} (c : Bool) : Rc A B i j → en A i c = some i' → en B j c = some j' → Rc A B i' j'
/-- whatever the first reads to its end the second does -/
def Wi (A B : List Ln) : Prop := ∀ i j c, Rc A B i j → en A i c ≠ none → en B j c ≠ none
def Snd (A B : List Ln) (p : Ln) : Prop := (∃ i j, p = (some i, some j) ∧ Rc A B i j) ∨ (∃ j, p = (none, some j)) ∨ (∃ i, p = (some i, none) ∧ ¬ Wi A B)
def Bd (A B : List Ln) (p : Ln) : Prop := (∀ a, p.1 = some a → a < A.length) ∧ ∀ b, p.2 = some b → b < B.length
structure JB (A B : List Ln) (Pl : List Ln) : Prop where
  nd : Pl.Nodup
  z : (some 0, some 0) ∈ Pl
  snd : ∀ p ∈ Pl, Snd A B p
  bd : ∀ p ∈ Pl, Bd A B p
theorem JB.init (hA : LineOk A) (hB : LineOk B) : JB A B [(some 0, some 0)] := by
  refine ⟨by simp, by simp, fun p hp => ?_, fun p hp => ?_⟩
  · rw [List.mem_singleton.mp hp]
    exact .inl ⟨0, 0, rfl, .z⟩
  · rw [List.mem_singleton.mp hp]
    exact ⟨fun a h => by cases h; exact hA.one, fun b h => by cases h; exact hB.one⟩
theorem fol_some {e : Bool} {p q : Ln} {c : Bool} (h : fol e A B p c = some q) : q = (p.1.bind fun i => en A i c, p.2.bind fun j => en B j c) ∧ ¬ (if e = true then (p.1.bind fun i => en A i c).isNone && (p.2.bind fun j => en B j c).isNone else (p.1.bind fun i => en A i c).isNone || (p.2.bind fun j => en B j c).isNone) = true := by
  unfold fol at h
  dsimp only at h
  by_cases hc : (if e = true then (p.1.bind fun i => en A i c).isNone && (p.2.bind fun j => en B j c).isNone else (p.1.bind fun i => en A i c).isNone || (p.2.bind fun j => en B j c).isNone) = true
  · rw [if_pos hc] at h
    cases h
  · rw [if_neg hc] at h
    exact ⟨(Option.some.inj h).symm, hc⟩
theorem fol_bd (hA : LineOk A) (hB : LineOk B) {e : Bool} {p q : Ln} {c : Bool} (h : fol e A B p c = some q) : Bd A B q := by
  obtain ⟨rfl, _⟩ := fol_some h
  refine ⟨fun a h => ?_, fun b h => ?_⟩
  · obtain ⟨i, _, hi⟩ := Option.bind_eq_some_iff.mp h
    exact en_lt hA hi
  · obtain ⟨i, _, hi⟩ := Option.bind_eq_some_iff.mp h
    exact en_lt hB hi
theorem fol_snd {p q : Ln} {c : Bool} (hp : Snd A B p) (h : fol true A B p c = some q) : Snd A B q := by
  obtain ⟨rfl, hne⟩ := fol_some h
  rcases hp with ⟨i, j, rfl, r⟩ | ⟨j, rfl⟩ | ⟨i, rfl, nw⟩
  · cases h1 : en A i c with
    | none =>
      cases h2 : en B j c with
      | none => exact absurd (by simp [h1, h2]) hne
      | some j' => exact .inr (.inl ⟨j', by simp [h1, h2]⟩)
    | some i' =>
      cases h2 : en B j c with
      | none => exact .inr (.inr ⟨i', by simp [h1, h2], fun w => w i j c r (by rw [h1]; simp) h2⟩)
      | some j' => exact .inl ⟨i', j', by simp [h1, h2], .s c r h1 h2⟩
  · cases h2 : en B j c with
    | none => exact absurd (by simp [h2]) hne
    | some j' => exact .inr (.inl ⟨j', by simp [h2]⟩)
  · cases h1 : en A i c with
    | none => exact absurd (by simp [h1]) hne
    | some i' => exact .inr (.inr ⟨i', by simp [h1], nw⟩)
theorem JB.add (b : JB A B Pl) (hA : LineOk A) (hB : LineOk B) {p q : Ln} {c : Bool} (hp : p ∈ Pl) (h : fol true A B p c = some q) (hq : q ∉ Pl) : JB A B (Pl ++ [q]) := by
  refine ⟨LF.nodup_snoc b.nd hq, List.mem_append.mpr (.inl b.z), fun r hr => ?_, fun r hr => ?_⟩
  · rcases List.mem_append.mp hr with hr | hr
    · exact b.snd r hr
    · rw [List.mem_singleton.mp hr]
      exact fol_snd (b.snd p hp) h
  · rcases List.mem_append.mp hr with hr | hr
    · exact b.bd r hr
    · rw [List.mem_singleton.mp hr]
      exact fol_bd hA hB h
/-- a pair as a number -/
def oc (o : Option Nat) : Nat := match o with | none => 0 | some a => a + 1
def pc (n : Nat) (p : Ln) : Nat := oc p.1 * (n + 1) + oc p.2
theorem oc_inj {o o' : Option Nat} (h : oc o = oc o') : o = o' := by
  cases o <;> cases o' <;> simp [oc] at h ⊢
  exact h
theorem oc_le {o : Option Nat} {n : Nat} (h : ∀ a, o = some a → a < n) : oc o ≤ n := by
  cases o with
  | none => exact Nat.zero_le _
  | some a => exact h a rfl
theorem JB.few (b : JB A B Pl) : Pl.length ≤ (A.length + 1) * (B.length + 1) := by
  have h1 : (Pl.map (pc B.length)).Nodup := by
    rw [List.Nodup, List.pairwise_map]
    refine List.Pairwise.imp_of_mem ?_ b.nd
    intro p q hp hq ne e
    refine ne ?_
    have b1 := oc_le (b.bd p hp).2
    have b2 := oc_le (b.bd q hq).2
    unfold pc at e
    have m1 : (oc p.1 * (B.length + 1) + oc p.2) % (B.length + 1) = oc p.2 := by
      rw [Nat.mul_comm, Nat.mul_add_mod, Nat.mod_eq_of_lt (by omega)]
    have m2 : (oc q.1 * (B.length + 1) + oc q.2) % (B.length + 1) = oc q.2 := by
      rw [Nat.mul_comm, Nat.mul_add_mod, Nat.mod_eq_of_lt (by omega)]
    have d1 : (oc p.1 * (B.length + 1) + oc p.2) / (B.length + 1) = oc p.1 := by
      rw [Nat.mul_comm, Nat.mul_add_div (by omega), Nat.div_eq_of_lt (by omega), Nat.add_zero]
    have d2 : (oc q.1 * (B.length + 1) + oc q.2) / (B.length + 1) = oc q.1 := by
      rw [Nat.mul_comm, Nat.mul_add_div (by omega), Nat.div_eq_of_lt (by omega), Nat.add_zero]
    have e1 : oc p.1 = oc q.1 := by rw [← d1, e, d2]
    have e2 : oc p.2 = oc q.2 := by rw [← m1, e, m2]
    exact Prod.ext (oc_inj e1) (oc_inj e2)
  have h2 := LF.few ((A.length + 1) * (B.length + 1)) h1 fun x hx => by
    obtain ⟨p, hp, rfl⟩ := List.mem_map.mp hx
    have b1 := oc_le (b.bd p hp).1
    have b2 := oc_le (b.bd p hp).2
    unfold pc
    have := Nat.mul_le_mul_right (B.length + 1) b1
    rw [Nat.succ_mul]
    omega
  rwa [List.length_map] at h2
/-- the first d pairs have been followed -/
def Cl (A B : List Ln) (Pl : List Ln) (d : Nat) : Prop := ∀ k p c q, k < d → Pl[k]? = some p → fol true A B p c = some q → q ∈ Pl
theorem Cl.more (h : Cl A B Pl d) (X : List Ln) (hd : d ≤ Pl.length) : Cl A B (Pl ++ X) d := fun k p c q hk hp e => by
  rw [List.getElem?_append_left (by omega)] at hp
  exact List.mem_append.mpr (.inl (h k p c q hk hp e))
/-- at the end -/
theorem end_iff (b : JB A B Pl) (h : Cl A B Pl Pl.length) : (∀ p ∈ Pl, p.2 ≠ none) ↔ Wi A B := by
  have step : ∀ p ∈ Pl, ∀ c q, fol true A B p c = some q → q ∈ Pl := fun p hp c q e => by
    obtain ⟨k, hk, rfl⟩ := List.getElem_of_mem hp
    exact h k _ c q hk (List.getElem?_eq_getElem hk) e
  have all : ∀ {i j}, Rc A B i j → (some i, some j) ∈ Pl := by
    intro i j r
    induction r with
    | z => exact b.z
    | s c r h1 h2 ih => exact step _ ih c _ (by simp [fol, h1, h2])
  refine ⟨fun hn i j c r h1 h2 => ?_, fun w p hp => ?_⟩
  · cases h3 : en A i c with
    | none => exact h1 h3
    | some i' => exact hn (some i', none) (step _ (all r) c _ (by simp [fol, h3, h2])) rfl
  · rcases b.snd p hp with ⟨i, j, rfl, r⟩ | ⟨j, rfl⟩ | ⟨i, rfl, nw⟩
    · intro z; cases z
    · intro z; cases z
    · exact absurd w nw
/-! ### the law's own walk: pairs of two states -/
structure WB (A B : List Ln) (Wl : List (Nat × Nat)) (Sn : List (Nat × Nat)) : Prop where
  z : (0, 0) ∈ Wl
  rc : ∀ p ∈ Wl, Rc A B p.1 p.2
  sn : ∀ p ∈ Sn, p ∈ Wl
  nd : Sn.Nodup
  len : Wl.length = 1 + Sn.length
theorem WB.init : WB A B [(0, 0)] [] := ⟨by simp, fun p hp => by rw [List.mem_singleton.mp hp]; exact .z, fun p hp => (List.not_mem_nil hp).elim, List.nodup_nil, rfl⟩
theorem WB.add {Wl Sn : List (Nat × Nat)} (b : WB A B Wl Sn) {p : Nat × Nat} {c : Bool} {i j : Nat} (hp : p ∈ Wl) (h1 : en A p.1 c = some i) (h2 : en B p.2 c = some j) (hn : (i, j) ∉ Sn) : WB A B (Wl ++ [(i, j)]) (Sn ++ [(i, j)]) := by
  refine ⟨List.mem_append.mpr (.inl b.z), fun q hq => ?_, fun q hq => ?_, LF.nodup_snoc b.nd hn, by rw [List.length_append, List.length_append, b.len]; simp; omega⟩
  · rcases List.mem_append.mp hq with hq | hq
    · exact b.rc q hq
    · rw [List.mem_singleton.mp hq]
      exact .s c (b.rc p hp) h1 h2
  · rcases List.mem_append.mp hq with hq | hq
    · exact List.mem_append.mpr (.inl (b.sn q hq))
    · exact List.mem_append.mpr (.inr hq)
theorem rc_bd (hA : LineOk A) (hB : LineOk B) {i j : Nat} (r : Rc A B i j) : i < A.length ∧ j < B.length := by
  cases r with
  | z => exact ⟨hA.one, hB.one⟩
  | s c r h1 h2 => exact ⟨en_lt hA h1, en_lt hB h2⟩
theorem WB.few {Wl Sn : List (Nat × Nat)} (b : WB A B Wl Sn) (hA : LineOk A) (hB : LineOk B) : Sn.length ≤ A.length * B.length := by
  have h1 : (Sn.map fun p => p.1 * B.length + p.2).Nodup := by
    rw [List.Nodup, List.pairwise_map]
    refine List.Pairwise.imp_of_mem ?_ b.nd
    intro p q hp hq ne e
    refine ne ?_
    obtain ⟨_, b1⟩ := rc_bd hA hB (b.rc p (b.sn p hp))
    obtain ⟨_, b2⟩ := rc_bd hA hB (b.rc q (b.sn q hq))
    have hp0 : 0 < B.length := hB.one
    have m1 : (p.1 * B.length + p.2) % B.length = p.2 := by rw [Nat.mul_comm, Nat.mul_add_mod, Nat.mod_eq_of_lt b1]
    have m2 : (q.1 * B.length + q.2) % B.length = q.2 := by rw [Nat.mul_comm, Nat.mul_add_mod, Nat.mod_eq_of_lt b2]
    have d1 : (p.1 * B.length + p.2) / B.length = p.1 := by rw [Nat.mul_comm, Nat.mul_add_div hp0, Nat.div_eq_of_lt b1, Nat.add_zero]
    have d2 : (q.1 * B.length + q.2) / B.length = q.1 := by rw [Nat.mul_comm, Nat.mul_add_div hp0, Nat.div_eq_of_lt b2, Nat.add_zero]
    exact Prod.ext (by rw [← d1, e, d2]) (by rw [← m1, e, m2])
  have h2 := LF.few (A.length * B.length) h1 fun x hx => by
    obtain ⟨p, hp, rfl⟩ := List.mem_map.mp hx
    obtain ⟨b1, b2⟩ := rc_bd hA hB (b.rc p (b.sn p hp))
    have := Nat.mul_le_mul_right B.length b1
    rw [Nat.succ_mul] at this
    omega
  rwa [List.length_map] at h2
/-- the first d of them have been followed, and nothing stopped there -/
def WC (A B : List Ln) (Wl Sn : List (Nat × Nat)) (d : Nat) : Prop := ∀ k p c i, k < d → Wl[k]? = some p → en A p.1 c = some i → ∃ j, en B p.2 c = some j ∧ (i, j) ∈ Sn
theorem wend (b : WB A B Wl Sn) (h : WC A B Wl Sn Wl.length) : Wi A B := by
  have step : ∀ p ∈ Wl, ∀ c i, en A p.1 c = some i → ∃ j, en B p.2 c = some j ∧ (i, j) ∈ Wl := fun p hp c i e => by
    obtain ⟨k, hk, rfl⟩ := List.getElem_of_mem hp
    obtain ⟨j, h1, h2⟩ := h k _ c i hk (List.getElem?_eq_getElem hk) e
    exact ⟨j, h1, b.sn _ h2⟩
  have all : ∀ {i j}, Rc A B i j → (i, j) ∈ Wl := by
    intro i j r
    induction r with
    | z => exact b.z
    | s c r h1 h2 ih =>
      obtain ⟨j, e, hj⟩ := step _ ih c _ h1
      have : en B _ c = some j := e
      rw [h2] at this
      cases this
      exact hj
  intro i j c r h1 h2
  cases h3 : en A i c with
  | none => exact h1 h3
  | some i' =>
    obtain ⟨j', e, _⟩ := step _ (all r) c i' h3
    have e : en B j c = some j' := e
    rw [h2] at e
    cases e
end JM

/-! the walk over all pairs of states that come: it tells two tables apart -/
namespace LF
variable {L : Type} [DecidableEq L]
def fl (r : Row L) (b : Bool) : L := if b = true then r.2.2.2 else r.2.1
def nx (r : Row L) (b : Bool) : Nat := if b = true then r.2.2.1 else r.1
def Ok2 (A B : List (Row L)) (sn : List (Nat × Nat)) (p : Nat × Nat) (b : Bool) : Prop := ∀ r r', A[p.1]? = some r → B[p.2]? = some r' → fl r b = fl r' b ∧ (nx r b, nx r' b) ∈ sn
structure UI (A B : List (Row L)) (S : List (Nat × Nat)) (at' : Nat) (wt sn : List (Nat × Nat)) : Prop where
  rng : ∀ p ∈ wt, p.1 < A.length ∧ p.2 < B.length
  snd : (∀ p ∈ S, Alk A p.1 B p.2) → ∀ p ∈ wt, Alk A p.1 B p.2
  sub : ∀ p ∈ sn, p ∈ wt
  fro : ∀ p ∈ S, p ∈ wt
  nd : sn.Nodup
  len : wt.length = S.length + sn.length
  don : ∀ i < at', ∀ p, wt[i]? = some p → ∀ b, Ok2 A B sn p b
variable {A B : List (Row L)} {S wt sn : List (Nat × Nat)} {at' : Nat}
theorem nx_lt (oA : TOk A) {a : Nat} {r : Row L} (h : A[a]? = some r) (b : Bool) : nx r b < A.length := by
  have := oA r (List.mem_of_getElem? h)
  unfold nx
  split
  · exact this.2
  · exact this.1
theorem UI.start (hS : ∀ p ∈ S, p.1 < A.length ∧ p.2 < B.length) : UI A B S 0 S [] :=
  ⟨hS, fun h => h, (by intro p hp; cases hp), fun p hp => hp, List.nodup_nil, by simp, fun i hi => absurd hi (Nat.not_lt_zero _)⟩
theorem alk_nx {p : Nat × Nat} {r r' : Row L} (h : Alk A p.1 B p.2) (hr : A[p.1]? = some r) (hr' : B[p.2]? = some r') (b : Bool) : fl r b = fl r' b ∧ Alk A (nx r b) B (nx r' b) := by
  refine ⟨?_, fun w => ?_⟩
  · have := h [b]
    rw [out_cons hr, out_cons hr'] at this
    injection this with this
    injection this
  · have := h (b :: w)
    rw [out_cons hr, out_cons hr'] at this
    injection this
theorem UI.push (u : UI A B S at' wt sn) (oA : TOk A) (oB : TOk B) (ha : at' < wt.length) {p : Nat × Nat} (hp : p ∈ wt) {r r' : Row L} (hr : A[p.1]? = some r) (hr' : B[p.2]? = some r') (b : Bool) (h : ¬ (nx r b, nx r' b) ∈ sn) : UI A B S at' (wt ++ [(nx r b, nx r' b)]) (sn ++ [(nx r b, nx r' b)]) := by
  refine ⟨fun q hq => ?_, fun g q hq => ?_, fun q hq => ?_, fun q hq => List.mem_append_left _ (u.fro q hq), ?_, ?_, fun i hi q hq c => ?_⟩
  · rcases List.mem_append.mp hq with hq | hq
    · exact u.rng q hq
    · cases List.mem_singleton.mp hq
      exact ⟨nx_lt oA hr b, nx_lt oB hr' b⟩
  · rcases List.mem_append.mp hq with hq | hq
    · exact u.snd g q hq
    · cases List.mem_singleton.mp hq
      exact (alk_nx (u.snd g p hp) hr hr' b).2
  · rcases List.mem_append.mp hq with hq | hq
    · exact List.mem_append_left _ (u.sub q hq)
    · exact List.mem_append_right _ hq
  · rw [List.nodup_append]
    refine ⟨u.nd, (by simp), fun x hx y hy => ?_⟩
    cases List.mem_singleton.mp hy
    rintro rfl
    exact h hx
  · rw [List.length_append, List.length_append, u.len]
    simp [Nat.add_assoc]
  · rw [List.getElem?_append_left (by omega)] at hq
    intro s s' hs hs'
    obtain ⟨h1, h2⟩ := u.don i hi q hq c s s' hs hs'
    exact ⟨h1, List.mem_append_left _ h2⟩
theorem UI.next (u : UI A B S at' wt sn) {p : Nat × Nat} (hp : wt[at']? = some p) (h : ∀ b, Ok2 A B sn p b) : UI A B S (at' + 1) wt sn :=
  ⟨u.rng, u.snd, u.sub, u.fro, u.nd, u.len, fun i hi q hq => by
    by_cases e : i = at'
    · subst e
      rw [hp] at hq
      cases hq
      exact h
    · exact u.don i (by omega) q hq⟩
theorem UI.done (u : UI A B S wt.length wt sn) : ∀ p ∈ S, Alk A p.1 B p.2 := by
  have all : ∀ (w : List Bool) (p : Nat × Nat), p ∈ wt → out A p.1 w = out B p.2 w := by
    intro w
    induction w with
    | nil => intro p _; simp [out]
    | cons b w ih =>
      intro p hp
      obtain ⟨i, hi, hi'⟩ := List.getElem_of_mem hp
      obtain ⟨h1, h2⟩ := u.rng p hp
      have hr := List.getElem?_eq_getElem h1
      have hr' := List.getElem?_eq_getElem h2
      obtain ⟨q1, q2⟩ := u.don i hi p (by rw [List.getElem?_eq_getElem hi, hi']) b _ _ hr hr'
      rw [out_cons hr, out_cons hr']
      have := ih _ (u.sub _ q2)
      unfold nx at this
      unfold fl at q1
      rw [q1, this]
  exact fun p hp w => all w p (u.fro p hp)
theorem UI.differ (u : UI A B S at' wt sn) {p : Nat × Nat} (hp : p ∈ wt) {r r' : Row L} (hr : A[p.1]? = some r) (hr' : B[p.2]? = some r') (b : Bool) (h : fl r b ≠ fl r' b) : ¬ ∀ p ∈ S, Alk A p.1 B p.2 :=
  fun g => h (alk_nx (u.snd g p hp) hr hr' b).1
theorem UI.size (u : UI A B S at' wt sn) : wt.length ≤ S.length + A.length * B.length := by
  rw [u.len]
  refine Nat.add_le_add_left ?_ _
  have nd : (sn.map fun p => p.1 * B.length + p.2).Nodup := by
    have hr : ∀ p ∈ sn, p.2 < B.length := fun p hp => (u.rng p (u.sub p hp)).2
    have : ∀ {l : List (Nat × Nat)}, l.Nodup → (∀ p ∈ l, p.2 < B.length) → (l.map fun p => p.1 * B.length + p.2).Nodup := by
      intro l
      induction l with
      | nil => intro _ _; exact List.nodup_nil
      | cons p l ih =>
        intro n g
        rw [List.nodup_cons] at n
        rw [List.map_cons, List.nodup_cons]
        refine ⟨fun z => ?_, ih n.2 fun q hq => g q (List.mem_cons_of_mem _ hq)⟩
        obtain ⟨q, hq, e⟩ := List.mem_map.mp z
        have g1 := g p (List.mem_cons_self ..)
        have g2 := g q (List.mem_cons_of_mem _ hq)
        have e2 : q.2 = p.2 := by
          have := congrArg (· % B.length) e
          simpa [Nat.mul_add_mod', Nat.mod_eq_of_lt g1, Nat.mod_eq_of_lt g2] using this
        have e1 : q.1 = p.1 := by
          rw [e2] at e
          have : q.1 * B.length = p.1 * B.length := by omega
          exact Nat.eq_of_mul_eq_mul_right (by omega) this
        have : q = p := by
          cases q
          cases p
          simp only at e1 e2
          rw [e1, e2]
        rw [this] at hq
        exact n.1 hq
    exact this u.nd hr
  have := few (A.length * B.length) nd fun x hx => by
    obtain ⟨p, hp, rfl⟩ := List.mem_map.mp hx
    obtain ⟨g1, g2⟩ := u.rng p (u.sub p hp)
    have : (p.1 + 1) * B.length ≤ A.length * B.length := Nat.mul_le_mul_right _ g1
    rw [Nat.add_mul] at this
    omega
  rw [List.length_map] at this
  exact this
end LF

/-! the law's visit comes to LF.visit -/
namespace LF
variable {L : Type} [DecidableEq L] {rows : List (Row L)} {o found : List Nat} {at' : Nat}
def VI (rows : List (Row L)) (o : List Nat) (at' : Nat) (found : List Nat) : Prop := ∃ f w s, VOk rows w s ∧ need rows w s ≤ f ∧ visit rows f w s = o ∧ s.length = at' ∧ found = w.foldl push s
theorem VI.start {st : List Nat} (ok : TOk rows) (hs : ∀ x ∈ st, x < rows.length) : VI rows (ord rows st) 0 (uniq st) :=
  ⟨st.length + 2 * rows.length, st, [], ⟨ok, hs, (by intro x hx; cases hx), List.nodup_nil⟩, (by unfold need; simp), rfl, rfl, rfl⟩
theorem vi_cases : ∀ (w s : List Nat) (f : Nat), VOk rows w s → need rows w s ≤ f →
    (visit rows f w s = s ∧ w.foldl push s = s) ∨ ∃ f' x w', VOk rows (x :: w') s ∧ need rows (x :: w') s ≤ f' + 1 ∧ visit rows (f' + 1) (x :: w') s = visit rows f w s ∧ (x :: w').foldl push s = w.foldl push s ∧ ¬ x ∈ s
  | [], s, f, v, h => .inl ⟨(by cases f <;> simp [visit]), rfl⟩
  | x :: w, s, 0, v, h => by
    unfold need at h
    simp at h
  | x :: w, s, f + 1, v, h => by
    by_cases hx : x ∈ s
    · have := vi_cases w s f v.old (by unfold need at h ⊢; rw [List.length_cons] at h; omega)
      have e : (x :: w).foldl push s = w.foldl push s := by
        rw [List.foldl_cons]
        congr 1
        unfold push
        rw [if_pos hx]
      rw [visit_old hx, e]
      exact this
    · exact .inr ⟨f, x, w, v, h, rfl, rfl, hx⟩
theorem VI.pre (v : VI rows o at' found) : at' ≤ found.length := by
  obtain ⟨f, w, s, _, _, _, rfl, rfl⟩ := v
  obtain ⟨t, ht⟩ := fold_pre w s
  rw [ht, List.length_append]
  omega
theorem VI.nd (v : VI rows o at' found) : found.Nodup := by
  obtain ⟨f, w, s, v, _, _, rfl, rfl⟩ := v
  exact fold_nodup v.nd
theorem VI.lt (v : VI rows o at' found) : ∀ x ∈ found, x < rows.length := by
  obtain ⟨f, w, s, v, _, _, rfl, rfl⟩ := v
  intro x hx
  rw [fold_mem] at hx
  rcases hx with hx | hx
  · exact v.hs x hx
  · exact v.hw x hx
theorem VI.len (v : VI rows o at' found) : found.length ≤ rows.length := few _ v.nd v.lt
theorem VI.done (v : VI rows o at' found) (h : found.length ≤ at') : found = o := by
  obtain ⟨f, w, s, v, hf, ho, rfl, rfl⟩ := v
  rcases vi_cases w s f v hf with ⟨h1, h2⟩ | ⟨f', x, w', v', hf', e1, e2, hx⟩
  · rw [h2, ← ho, h1]
  · exfalso
    rw [← e2, List.foldl_cons] at h
    have : push s x = s ++ [x] := by unfold push; rw [if_neg hx]
    rw [this] at h
    obtain ⟨t, ht⟩ := fold_pre w' (s ++ [x])
    rw [ht] at h
    simp at h
    omega
theorem VI.step (v : VI rows o at' found) (h : at' < found.length) : ∃ x r, found[at']? = some x ∧ rows[x]? = some r ∧ VI rows o (at' + 1) (push (push found r.1) r.2.2.1) := by
  obtain ⟨f, w, s, v, hf, ho, rfl, rfl⟩ := v
  rcases vi_cases w s f v hf with ⟨h1, h2⟩ | ⟨f', x, w', v', hf', e1, e2, hx⟩
  · rw [h2] at h
    omega
  · have hlt := v'.hw x List.mem_cons_self
    have hr : rows[x]? = some rows[x] := List.getElem?_eq_getElem hlt
    have hp : push s x = s ++ [x] := by unfold push; rw [if_neg hx]
    have hf2 : (x :: w').foldl push s = w'.foldl push (s ++ [x]) := by rw [List.foldl_cons, hp]
    refine ⟨x, rows[x], ?_, hr, ?_⟩
    · rw [← e2, hf2]
      obtain ⟨t, ht⟩ := fold_pre w' (s ++ [x])
      rw [ht, List.append_assoc, List.getElem?_append_right (Nat.le_refl _), Nat.sub_self]
      rfl
    · refine ⟨f', w' ++ [rows[x].1, rows[x].2.2.1], s ++ [x], v'.new hx hr, ?_, ?_, by simp, ?_⟩
      · have := need_new (r := rows[x]) v' hx
        omega
      · rw [← ho, ← e1, visit_new hx hr]
      · rw [← e2, hf2, List.foldl_append]
        rfl
end LF

/-! a least form is numbered by its visit, and its states are apart -/
namespace LF
variable {L : Type} [DecidableEq L] {rows : List (Row L)} {starts : List Nat}
theorem ix_at {o : List Nat} (nd : o.Nodup) {i : Nat} (h : i < o.length) : ix o o[i] = i := ix_get nd (List.getElem?_eq_getElem h)
theorem nd_inj {o : List Nat} (nd : o.Nodup) {i j : Nat} (hi : i < o.length) (hj : j < o.length) (e : o[i] = o[j]) : i = j := by
  have h1 := ix_at nd hi
  have h2 := ix_at nd hj
  rw [e] at h1
  exact h1.symm.trans h2
theorem lf_apart (ok : TOk rows) (hs : ∀ s ∈ starts, s < rows.length) : Apart (lf rows starts).1 := by
  have mA := mg_ok ok
  have hb := b_lt hs
  have eA := ord_end mA hb
  intro i j hi hj h
  change i < (laid _ _).length at hi
  change j < (laid _ _).length at hj
  unfold laid at hi hj
  rw [laid_len _ eA.lt] at hi hj
  have mi := List.getElem_mem hi
  have mj := List.getElem_mem hj
  have e : (ord (mg rows) (starts.map (at_ (cls rows))))[i] = (ord (mg rows) (starts.map (at_ (cls rows))))[j] := by
    refine mg_apart ok _ _ (eA.lt _ mi) (eA.lt _ mj) fun w => ?_
    have q1 := laid_out mA hb w mi
    have q2 := laid_out mA hb w mj
    rw [ix_at eA.nd hi] at q1
    rw [ix_at eA.nd hj] at q2
    rw [← q1, ← q2]
    exact h w
  exact nd_inj eA.nd hi hj e
theorem ord_lf (ok : TOk rows) (hs : ∀ s ∈ starts, s < rows.length) : ord (lf rows starts).1 (lf rows starts).2 = List.range (lf rows starts).1.length := by
  have mA := mg_ok ok
  have hb := b_lt hs
  have eA := ord_end mA hb
  have pB := lf_apart ok hs
  have oB := laid_ok ok hs
  have ll : (lf rows starts).1.length = (ord (mg rows) (starts.map (at_ (cls rows)))).length := laid_len _ eA.lt
  have rr : ∀ x ∈ ord (mg rows) (starts.map (at_ (cls rows))), RR (mg rows) (lf rows starts).1 x (ix (ord (mg rows) (starts.map (at_ (cls rows)))) x) := fun x hx => by
    refine ⟨eA.lt x hx, ?_, fun w => (laid_out mA hb w hx).symm⟩
    rw [ll]
    exact (List.getElem?_eq_some_iff.mp (get_ix hx)).1
  have hF : F2 (RR (mg rows) (lf rows starts).1) (starts.map (at_ (cls rows))) (lf rows starts).2 := by
    refine F2.of (by show _ = (List.map _ _).length; rw [List.length_map, List.length_map]; rw [List.length_map]) fun i a b h1 h2 => ?_
    change (List.map _ (List.map _ starts))[i]? = some b at h2
    rw [List.getElem?_map, h1] at h2
    cases h2
    exact rr a (eA.all a (List.mem_of_getElem? h1))
  have ho := ord_sim mA oB (mg_apart ok) pB hF
  refine List.ext_getElem? fun i => ?_
  by_cases hi : i < (ord (mg rows) (starts.map (at_ (cls rows)))).length
  · have hi' : i < (ord (lf rows starts).1 (lf rows starts).2).length := by rw [← ho.len]; exact hi
    have r1 := ho.get (List.getElem?_eq_getElem hi) (List.getElem?_eq_getElem hi')
    have r2 := rr _ (List.getElem_mem hi)
    rw [ix_at eA.nd hi] at r2
    rw [List.getElem?_eq_getElem hi', List.getElem?_range (by rw [ll]; exact hi), rr_r pB r1 r2]
  · rw [List.getElem?_eq_none (by rw [← ho.len]; omega), List.getElem?_eq_none (by rw [List.length_range, ll]; omega)]
end LF

/-! least lines: what ends stays; the law's walk over two states -/
namespace JN
open LF JM
abbrev Rn := LF.Row Bool
variable {M T : List Rn}
def lnOf (r : Rn) : Ln := (if r.2.1 = true then none else some r.1, if r.2.2.2 = true then none else some r.2.2.1)
/-- where a row ends it stays in its state -/
def EndSelf (M : List Rn) : Prop := ∀ i r, M[i]? = some r → ∀ b, fl r b = true → nx r b = i
theorem visit_pre (m : List Rn) : ∀ (f : Nat) (w s : List Nat), ∃ t, visit m f w s = s ++ t
  | 0, w, s => ⟨[], by cases w <;> simp [visit]⟩
  | f + 1, [], s => ⟨[], by simp [visit]⟩
  | f + 1, x :: w, s => by
    by_cases hx : x ∈ s
    · rw [visit_old hx]
      exact visit_pre m f w s
    · cases hr : m[x]? with
      | none =>
        refine ⟨[], ?_⟩
        show (if x ∈ s then _ else _) = _
        rw [if_neg hx, hr, List.append_nil]
      | some r =>
        rw [visit_new hx hr]
        obtain ⟨t, ht⟩ := visit_pre m f (w ++ [r.1, r.2.2.1]) (s ++ [x])
        exact ⟨x :: t, by rw [ht]; simp⟩
theorem visit_all (m : List Rn) {Q : Nat → Prop} (hc : ∀ x r, Q x → m[x]? = some r → Q r.1 ∧ Q r.2.2.1) : ∀ (f : Nat) (w s : List Nat), (∀ x ∈ w, Q x) → (∀ x ∈ s, Q x) → ∀ x ∈ visit m f w s, Q x
  | 0, w, s, _, hs => by
    intro x hx
    cases w <;> simp [visit] at hx <;> exact hs x hx
  | f + 1, [], s, _, hs => by
    intro x hx
    simp [visit] at hx
    exact hs x hx
  | f + 1, y :: w, s, hw, hs => by
    by_cases hy : y ∈ s
    · rw [visit_old hy]
      exact visit_all m hc f w s (fun x hx => hw x (List.mem_cons_of_mem _ hx)) hs
    · cases hr : m[y]? with
      | none =>
        have e : visit m (f + 1) (y :: w) s = s := by
          show (if y ∈ s then _ else _) = _
          rw [if_neg hy, hr]
        rw [e]
        exact hs
      | some r =>
        rw [visit_new hy hr]
        obtain ⟨c1, c2⟩ := hc y r (hw y List.mem_cons_self) hr
        refine visit_all m hc f _ _ (fun x hx => ?_) (fun x hx => ?_)
        · rcases List.mem_append.mp hx with hx | hx
          · exact hw x (List.mem_cons_of_mem _ hx)
          · simp at hx
            rcases hx with rfl | rfl
            · exact c1
            · exact c2
        · rcases List.mem_append.mp hx with hx | hx
          · exact hs x hx
          · rw [List.mem_singleton.mp hx]
            exact hw y List.mem_cons_self
/-- the first that is visited is the start -/
theorem ord_head {m : List Rn} {x : Nat} (h : x < m.length) : ∃ t, ord m [x] = x :: t := by
  unfold ord
  have e : ([x] : List Nat).length + 2 * m.length = (2 * m.length) + 1 := by simp; omega
  rw [e, visit_new (by simp) (List.getElem?_eq_getElem h)]
  obtain ⟨t, ht⟩ := visit_pre m (2 * m.length) ([] ++ [m[x].1, m[x].2.2.1]) ([] ++ [x])
  exact ⟨t, by rw [ht]; simp⟩
/-- the least form of a table in which what ends stays -/
structure Lst (M : List Rn) : Prop where
  ok : TOk M
  one : 0 < M.length
  es : EndSelf M
  ord : ord M [0] = List.range M.length
  ap : Apart M
theorem lst_of {T : List Rn} (ok : TOk T) (h0 : 0 < T.length) (es : EndSelf T) : Lst (lf T [0]).1 := by
  have hs : ∀ s ∈ ([0] : List Nat), s < T.length := fun s hs => by rw [List.mem_singleton.mp hs]; exact h0
  have l1 : (lf T [0]).2.length = 1 := lf_len
  have lt := lf_st ok hs
  have ol := ord_lf ok hs
  have ap := lf_apart ok hs
  have okM := laid_ok ok hs
  have al := lf_alk ok hs
  generalize lf T [0] = X at l1 lt ol ap okM al
  obtain ⟨M, st⟩ := X
  dsimp only at l1 lt ol ap okM al
  match st, l1 with
  | [x], _ =>
    have hx : x < M.length := lt x (by simp)
    obtain ⟨t, ht⟩ := ord_head hx
    have hx0 : x = 0 := by
      rw [ol] at ht
      cases hn : M.length with
      | zero => omega
      | succ k =>
        rw [hn, List.range_succ_eq_map] at ht
        injection ht with h1 _
        exact h1.symm
    subst hx0
    have a0 : Alk M 0 T 0 := by
      cases al with
      | cons h _ => exact h
    have all : ∀ i, i < M.length → ∃ s, s < T.length ∧ Alk M i T s := by
      intro i hi
      have hm : i ∈ LF.ord M [0] := by rw [ol]; exact List.mem_range.mpr hi
      unfold LF.ord at hm
      refine visit_all M (Q := fun i => ∃ s, s < T.length ∧ Alk M i T s) (fun y r hy hr => ?_) _ _ _ (fun y hy => ?_) (fun y hy => by cases hy) i hm
      · obtain ⟨s, hs', ha⟩ := hy
        have hT := List.getElem?_eq_getElem hs'
        have n0 := alk_nx (p := (y, s)) ha hr hT false
        have n1 := alk_nx (p := (y, s)) ha hr hT true
        have o := ok _ (List.getElem_mem hs')
        exact ⟨⟨_, o.1, n0.2⟩, ⟨_, o.2, n1.2⟩⟩
      · rw [List.mem_singleton.mp hy]
        exact ⟨0, h0, a0⟩
    refine ⟨okM, hx, fun i r hr b hb => ?_, ol, ap⟩
    have hi := (List.getElem?_eq_some_iff.mp hr).1
    obtain ⟨s, hs', ha⟩ := all i hi
    have hT := List.getElem?_eq_getElem hs'
    have n := alk_nx (p := (i, s)) ha hr hT b
    have e1 := es s _ hT b (by rw [← n.1]; exact hb)
    have n2 := n.2
    rw [e1] at n2
    have hn : nx r b < M.length := by
      have := okM r (List.mem_of_getElem? hr)
      cases b
      · exact this.1
      · exact this.2
    exact ap _ _ hn hi fun w => (n2 w).trans (ha w).symm
theorem en_ln {i : Nat} {r : Rn} (h : M[i]? = some r) (b : Bool) : en (M.map lnOf) i b = if fl r b = true then none else some (nx r b) := by
  rw [en_at (l := lnOf r) (by rw [List.getElem?_map, h]; rfl)]
  cases b <;> rfl
/-- the walk over two states -/
structure WR (n : Nat) (s : Nat × Nat) (Wl Sn : List (Nat × Nat)) : Prop where
  z : s ∈ Wl
  bd : ∀ p ∈ Wl, p.1 < n ∧ p.2 < n
  sn : ∀ p ∈ Sn, p ∈ Wl
  nd : Sn.Nodup
  len : Wl.length = 1 + Sn.length
theorem WR.init {n : Nat} {s : Nat × Nat} (h1 : s.1 < n) (h2 : s.2 < n) : WR n s [s] [] := ⟨by simp, fun p hp => by rw [List.mem_singleton.mp hp]; exact ⟨h1, h2⟩, fun p hp => (List.not_mem_nil hp).elim, List.nodup_nil, rfl⟩
theorem WR.add {n : Nat} {s q : Nat × Nat} {Wl Sn : List (Nat × Nat)} (b : WR n s Wl Sn) (h1 : q.1 < n) (h2 : q.2 < n) (hn : q ∉ Sn) : WR n s (Wl ++ [q]) (Sn ++ [q]) := by
  refine ⟨List.mem_append.mpr (.inl b.z), fun p hp => ?_, fun p hp => ?_, LF.nodup_snoc b.nd hn, by rw [List.length_append, List.length_append, b.len]; simp; omega⟩
  · rcases List.mem_append.mp hp with hp | hp
    · exact b.bd p hp
    · rw [List.mem_singleton.mp hp]
      exact ⟨h1, h2⟩
  · rcases List.mem_append.mp hp with hp | hp
    · exact List.mem_append.mpr (.inl (b.sn p hp))
    · exact List.mem_append.mpr (.inr hp)
theorem WR.few {n : Nat} {s : Nat × Nat} {Wl Sn : List (Nat × Nat)} (b : WR n s Wl Sn) : Sn.length ≤ n * n := by
  have h1 : (Sn.map fun p => p.1 * n + p.2).Nodup := by
    rw [List.Nodup, List.pairwise_map]
    refine List.Pairwise.imp_of_mem ?_ b.nd
    intro p q hp hq ne e
    refine ne ?_
    have b1 := (b.bd p (b.sn p hp)).2
    have b2 := (b.bd q (b.sn q hq)).2
    have hp0 : 0 < n := by omega
    have m1 : (p.1 * n + p.2) % n = p.2 := by rw [Nat.mul_comm, Nat.mul_add_mod, Nat.mod_eq_of_lt b1]
    have m2 : (q.1 * n + q.2) % n = q.2 := by rw [Nat.mul_comm, Nat.mul_add_mod, Nat.mod_eq_of_lt b2]
    have d1 : (p.1 * n + p.2) / n = p.1 := by rw [Nat.mul_comm, Nat.mul_add_div hp0, Nat.div_eq_of_lt b1, Nat.add_zero]
    have d2 : (q.1 * n + q.2) / n = q.1 := by rw [Nat.mul_comm, Nat.mul_add_div hp0, Nat.div_eq_of_lt b2, Nat.add_zero]
    exact Prod.ext (by rw [← d1, e, d2]) (by rw [← m1, e, m2])
  have h2 := LF.few (n * n) h1 fun x hx => by
    obtain ⟨p, hp, rfl⟩ := List.mem_map.mp hx
    obtain ⟨b1, b2⟩ := b.bd p (b.sn p hp)
    have := Nat.mul_le_mul_right n b1
    rw [Nat.succ_mul] at this
    omega
  rwa [List.length_map] at h2
/-- the first d of them have been followed, and nothing differed there -/
def RC (A : List Ln) (Wl Sn : List (Nat × Nat)) (d : Nat) : Prop := ∀ k p c, k < d → Wl[k]? = some p → (en A p.1 c).isNone = (en A p.2 c).isNone ∧ ∀ a b, en A p.1 c = some a → en A p.2 c = some b → (a, b) ∈ Sn
theorem rend (h : Lst M) {s : Nat × Nat} {Wl Sn : List (Nat × Nat)} (b : WR M.length s Wl Sn) (hc : RC (M.map lnOf) Wl Sn Wl.length) : s.1 = s.2 := by
  obtain ⟨s1, s2⟩ := b.bd s b.z
  refine h.ap _ _ s1 s2 fun w => ?_
  suffices g : ∀ (w : List Bool) (p : Nat × Nat), p ∈ Wl → out M p.1 w = out M p.2 w from g w s b.z
  intro w
  induction w with
  | nil => intro p _; rfl
  | cons c w ih =>
    intro p hp
    obtain ⟨k, hk, rfl⟩ := List.getElem_of_mem hp
    obtain ⟨b1, b2⟩ := b.bd _ hp
    obtain ⟨f1, f2⟩ := hc k _ c hk (List.getElem?_eq_getElem hk)
    have r1 := List.getElem?_eq_getElem b1
    have r2 := List.getElem?_eq_getElem b2
    rw [en_ln r1, en_ln r2] at f1 f2
    have e1 := h.es _ _ r1 c
    have e2 := h.es _ _ r2 c
    rw [out_cons r1, out_cons r2]
    show some (fl _ c) :: out M (nx _ c) w = some (fl _ c) :: out M (nx _ c) w
    by_cases g1 : fl M[Wl[k].1] c = true
    · by_cases g2 : fl M[Wl[k].2] c = true
      · rw [e1 g1, e2 g2, g1, g2, ih _ hp]
      · rw [if_pos g1, if_neg g2] at f1
        cases f1
    · by_cases g2 : fl M[Wl[k].2] c = true
      · rw [if_neg g1, if_pos g2] at f1
        cases f1
      · rw [if_neg g1, if_neg g2] at f2
        have hm := b.sn _ (f2 _ _ rfl rfl)
        have e3 : fl M[Wl[k].1] c = fl M[Wl[k].2] c := by
          cases h3 : fl M[Wl[k].1] c
          · cases h4 : fl M[Wl[k].2] c
            · rfl
            · exact absurd h4 g2
          · exact absurd h3 g1
        rw [e3, ih _ hm]
end JN

set_option maxHeartbeats 4000000
namespace PA
open PySem L2 RZ
open C8 (pss_cut tCut)
open JM (fol Bd JB Cl Wi Rc en)
/-! ### pairs as keys -/
def lf : Option Nat → Leaf
  | none => .none
  | some n => .num (n : Int)
def lk (p : Ln) : LKey := [lf p.1, lf p.2]
theorem lf_inj {a b : Option Nat} (h : lf a = lf b) : a = b := by
  cases a <;> cases b <;> simp [lf] at h ⊢
  omega
theorem lk_inj {p q : Ln} (h : lk p = lk q) : p = q := by
  obtain ⟨a, b⟩ := p
  obtain ⟨c, d⟩ := q
  simp only [lk, List.cons.injEq, and_true] at h
  rw [lf_inj h.1, lf_inj h.2]
theorem isLn.key {H : Hp} {t : Addr} {p : Ln} (h : isLn H t p) : KeyAt H t (lk p) := by
  obtain ⟨a, b⟩ := p
  refine ⟨[ev a, ev b], h, .cons ?_ (.cons ?_ .nil)⟩
  · cases a with
    | none => rfl
    | some n => exact .inl rfl
  · cases b with
    | none => rfl
    | some n => exact .inl rfl
def gh : Nat → Int
  | 0 => reduceHash 0xFCA86420
  | n + 1 => hashInt (n : Int)
def fh (x y : Nat) : Int := reduceHash (Builtin.Tuple.tupleHashOf [gh x, gh y])
theorem fh_ne : ∀ x < 12, ∀ y < 12, fh x y ≠ gh 0 := by decide +kernel
theorem hash_lf (P : Program) (w : World) (a : Option Nat) : (leafKind P w).hash (lf a) = gh (JM.oc a) := by
  cases a with
  | none =>
    show NestedKey.hash w .none = _
    rw [NestedKey.hash]
    rfl
  | some n =>
    show NestedKey.hash w (.num (n : Int)) = _
    rw [NestedKey.hash]
    rfl
theorem hash_lk (P : Program) (w : World) (p : Ln) : (dxK P w).hash (lk p) = fh (JM.oc p.1) (JM.oc p.2) := by
  show reduceHash (Builtin.Tuple.tupleHashOf [(leafKind P w).hash (lf p.1), (leafKind P w).hash (lf p.2)]) = _
  rw [hash_lf, hash_lf]
  rfl
theorem no_non {P : Program} {w : World} {ps : List (LKey × V)} {Pl : List Ln} {n : Nat} (hn : n ≤ 11) (h : ∀ p ∈ Pl, (∀ a, p.1 = some a → a < n) ∧ ∀ a, p.2 = some a → a < n) (e : ps.map (·.1) = Pl.map lk) : NoNon P w ps := by
  intro q hq
  have : q.1 ∈ ps.map (·.1) := List.mem_map.mpr ⟨q, hq, rfl⟩
  rw [e] at this
  obtain ⟨p, hp, e1⟩ := List.mem_map.mp this
  have e2 : hNon P w = gh 0 := hash_lf P w none
  rw [← e1, hash_lk, e2]
  have b1 := JM.oc_le (h p hp).1
  have b2 := JM.oc_le (h p hp).2
  exact fh_ne _ (by omega) _ (by omega)
theorem val_keys : ∀ (ps : List (LKey × V)) (k : LKey), (valV ps k).isSome = decide (k ∈ ps.map (·.1))
  | [], k => by simp [valV]
  | p :: ps, k => by
    by_cases h : p.1 = k
    · rw [valV_pos h, List.map_cons, h]
      simp
    · rw [valV_neg h, val_keys ps k, List.map_cons, Bool.eq_iff_iff]
      simp
      intro z
      exact absurd z.symm h
end PA

set_option maxHeartbeats 8000000
namespace PA
open PySem L2 RZ
open C8 (pss_cut tCut)
abbrev sFInit : Stmt := inClass (top 8) 0
abbrev Cr := Nat × Nat × Nat
/-- the word of a verdict's number -/
def vt : Nat → Str
  | 0 => "none"
  | 1 => "last"
  | 2 => "other"
  | _ => "free"
def VW : List Str := ["none", "last", "other", "free"]
def cv (r : Cr) : List V := [.int (r.1 : Int), .int (r.2.1 : Int), .str (vt r.2.2)]
def COk (n : Nat) (r : Cr) : Prop := r.1 < n ∧ r.2.1 < n ∧ r.2.2 < 4
structure GoodC (ls : List Cr) : Prop where
  one : 1 ≤ ls.length
  most : ls.length ≤ 48
  ok : ∀ l ∈ ls, COk ls.length l
abbrev isCr : Hp → Addr → Cr → Prop := TupOf cv
structure TxtV (K : PySem.W.Frag) (mg : Str → Option Value) : Prop where
  V_ : ∃ DV o, mg "VERDICTS" = some (.ref DV) ∧ K.lookup DV = some o ∧ o.cls = .type "tuple" ∧ o.dict = none ∧ ∀ H, SqT K H DV (VW.map V.str)
  last : ∃ t, mg "LAST" = some (.int 1 t)
  other : ∃ t, mg "OTHER" = some (.int 2 t)
theorem vw_at {n : Nat} (h : n < 4) : VW[n]? = some (vt n) := by
  rcases (by omega : n = 0 ∨ n = 1 ∨ n = 2 ∨ n = 3) with rfl | rfl | rfl | rfl <;> rfl
theorem vt_inj {n m : Nat} (h : n < 4) (h' : m < 4) (e : vt n = vt m) : n = m := by
  rcases (by omega : n = 0 ∨ n = 1 ∨ n = 2 ∨ n = 3) with rfl | rfl | rfl | rfl <;> rcases (by omega : m = 0 ∨ m = 1 ∨ m = 2 ∨ m = 3) with rfl | rfl | rfl | rfl <;> first | rfl | (exfalso; revert e; decide +kernel)
theorem vw_in {n : Nat} (h : n < 4) : inV (.str (vt n)) (VW.map V.str) = true := by
  rcases (by omega : n = 0 ∨ n = 1 ∨ n = 2 ∨ n = 3) with rfl | rfl | rfl | rfl <;> decide +kernel
/-- what the class Claim is, and Found -/
structure TxtC (K : PySem.W.Frag) (mg : Str → Option Value) (C Fo : Addr) : Prop where
  cl : Cls K C
  nR : NoAttr K C "rows"
  mgC : mg "Claim" = some (.ref C)
  mgF : mg "Found" = some (.ref Fo)
  kl : PySem.W.kitOne K (.type "list") (.ref Fo) = some false
  kt : PySem.W.kitOne K (.type "tuple") (.ref Fo) = some false
/-- a Claim of these lines stands at p -/
def ClaimAt (C : Addr) (H : Hp) (p : Addr) (ls : List Cr) : Prop := ∃ dx T refs, H p = some (.ins C dx (rsf T)) ∧ H T = some (.tup refs) ∧ Ea H isCr refs ls
theorem ClaimAt.same {C : Addr} {H H' : Hp} {p : Addr} {ls : List Cr} (m : ClaimAt C H p ls) (s : Same H H') : ClaimAt C H' p ls := by
  obtain ⟨dx, T, refs, h1, h2, h3⟩ := m
  exact ⟨dx, T, refs, s _ _ h1, s _ _ h2, h3.same s⟩
theorem ClaimAt.nl {C : Addr} {H H' : Hp} {p : Addr} {ls : List Cr} (m : ClaimAt C H p ls) (nl : ∀ c o, H c = some o → (∀ xs, o ≠ .lst xs) → H' c = some o) : ClaimAt C H' p ls := by
  obtain ⟨dx, T, refs, h1, h2, h3⟩ := m
  exact ⟨dx, T, refs, nl _ _ h1 (by intro xs e; cases e), nl _ _ h2 (by intro xs e; cases e), h3.imp fun c r q => nl _ _ q (by intro xs e; cases e)⟩
/-! ### promises -/
def spIsRow : Sp := fun vs H Q _ => ∃ (p : Addr) (l : Cr) (n : Nat), vs = [.ref p, .int (n : Int)] ∧ isCr H p l ∧ COk n l ∧ ∀ H', Same H H' → Q (.bl true) H'
def spCheck : Sp := fun vs H Q _ => ∃ (R : Addr) (refs : List V) (ls : List Cr), vs = [.ref R] ∧ H R = some (.tup refs) ∧ Ea H isCr refs ls ∧ GoodC ls ∧ ∀ H', Same H H' → Q .non H'
def spInit (K : PySem.W.Frag) (C : Addr) : Sp := fun vs H Q _ => ∃ (p dx L : Addr) (refs : List V) (ls : List Cr), vs = [.ref p, .ref L] ∧ H p = some (.ins C dx []) ∧ (H L = some (.lst refs) ∨ H L = some (.tup refs)) ∧ Ea H (TLOf cv) refs ls ∧ GoodC ls ∧
  ∀ H', (∃ T refs', H' p = some (.ins C dx (rsf T)) ∧ H' T = some (.tup refs') ∧ Ea H' isCr refs' ls) → (∀ c o, H c = some o → c ≠ p → H' c = some o) → Q .non H'
/-- what the class Found is -/
structure TxtF (K : PySem.W.Frag) (Fo : Addr) : Prop where
  cl : Cls K Fo
  nR : NoAttr K Fo "rows"
  q1 : PySem.W.findIn K (.ref Fo) "__class__" = some (some (.builtin "object.__class__"))
  q2 : PySem.W.specialIn K (.builtin "object.__class__") "__get__" = some (some (.builtin "getset_descriptor.__get__"))
  q3 : PySem.W.takesIn K (.builtin "object.__class__") = some true
  q4 : PySem.W.mroIn K Fo (.type "object") = some true
  kFF : PySem.W.kitOne K (.ref Fo) (.ref Fo) = some true
def spFInit (Fo : Addr) : Sp := fun vs H Q _ => ∃ (p dx L : Addr) (refs : List V), vs = [.ref p, .ref L] ∧ H p = some (.ins Fo dx []) ∧ H L = some (.lst refs) ∧ refs.length ≤ 1000 ∧
  ∀ T H', H' p = some (.ins Fo dx (rsf T)) → H' T = some (.tup refs) → (∀ c o, H c = some o → c ≠ p → H' c = some o) → Q .non H'
def spInitF (C Fo : Addr) : Sp := fun vs H Q _ => ∃ (p dx q dq T : Addr), vs = [.ref p, .ref q] ∧ H p = some (.ins C dx []) ∧ H q = some (.ins Fo dq (rsf T)) ∧
  ∀ H', H' p = some (.ins C dx (rsf T)) → (∀ c o, H c = some o → c ≠ p → H' c = some o) → Q .non H'
section
variable {P : Program} {w : World} {K : PySem.W.Frag} {mg : Str → Option Value} {base : Heap} {C Fo : Addr}
theorem scIsRow : FnScope ["row", "count"] ["row", "count"] (defScope sIsRow) := ⟨rfl, rfl, rfl, by decide +kernel, rfl, by decide +kernel, by decide +kernel⟩
theorem ok_isRow {f g1 g2 : Addr} {fd gd1 gd2 : FuncData} (F : Fun K "_is_row" "_is_row" sIsRow f fd) (T : Txt K mg) (TV : TxtV K mg) (D1 : Df K mg "is_integer" sIsInt g1 gd1 ["value"]) (D2 : Df K mg "is_below" sBelow g2 gd2 ["value", "count"]) : FnOk P w K mg base CX0 3 f fd ["row", "count"] spIsRow := by
  have G2 : FnOk P w K mg base CX0 2 g2 gd2 ["value", "count"] spBelow := ok_below D2.F T D1
  obtain ⟨DV, _, hDV, _, _, _, hV⟩ := TV.V_
  refine F.ok scIsRow (fun vs H Q E h => ?_) (fun cdv A outer s H vs Q E hr h => ?_)
  · obtain ⟨p, _, _, rfl, _⟩ := h
    rfl
  · obtain ⟨p, l, n, rfl, hp, hl, kk⟩ := h
    refine ⟨_, pss_one (ps_ret (pe_and (pe_cmpR op_eq (pe_callB call_len_seq (by rfl) T.len_ PySem.boot_len (pa_cons (pv 0) pa_nil)) pe_int (nomark _))
      (pe_and (pe_call G2 hr rfl D2.M D2.F.kp D2.B .nil pass0 (pa_cons (pe_ix ix_tup (pv 0) pe_int (fun _ _ => rfl)) (pa_cons (pv 1) pa_nil)))
      (pe_and (pe_call G2 hr rfl D2.M D2.F.kp D2.B .nil pass0 (pa_cons (pe_ix ix_tup (pv 0) pe_int (fun _ _ => rfl)) (pa_cons (pv 1) pa_nil)))
      (pe_one (pe_cmpR op_in_seq (pe_ix ix_tup (pv 0) pe_int (fun _ _ => rfl)) (pe_glob (v := .ref DV) rfl hDV rfl) rfl)))))), ?_⟩
    obtain ⟨la, lb, lc⟩ := l
    obtain ⟨o1, o2, o3⟩ := hl
    have hp : H p = some (.tup [.int (la : Int), .int (lb : Int), .str (vt lc)]) := hp
    dsimp only at o1 o2 o3
    refine ⟨_, rfl, p, _, rfl, .inr (SqT.of hp), rfl, _, rfl, ifD_yes rfl ?_⟩
    refine ⟨_, rfl, p, _, 0, _, rfl, rfl, SqT.of hp, rfl, _, rfl, (la : Int), (n : Int), rfl, by omega, by omega, _, rfl, iteT ?_⟩
    refine ⟨_, rfl, p, _, 1, _, rfl, rfl, SqT.of hp, rfl, _, rfl, (lb : Int), (n : Int), rfl, by omega, by omega, _, rfl, iteT ?_⟩
    refine ⟨_, rfl, p, _, 2, _, rfl, rfl, SqT.of hp, rfl, DV, _, rfl, .inr (hV H), rfl, by decide +kernel, ?_⟩
    show Q (V.bl (inV (V.str (vt lc)) (VW.map V.str))) H
    rw [vw_in o3]
    exact kk H fun _ _ e => e
theorem scCheck : FnScope ["rows", "row"] ["rows"] (defScope sCheck) := ⟨rfl, rfl, rfl, by decide +kernel, rfl, by decide +kernel, by decide +kernel⟩
theorem ok_check {f g1 g2 g3 : Addr} {fd gd1 gd2 gd3 : FuncData} (F : Fun K "_check_rows" "_check_rows" sCheck f fd) (T : Txt K mg) (D1 : Df K mg "is_integer" sIsInt g1 gd1 ["value"]) (D2 : Df K mg "is_below" sBelow g2 gd2 ["value", "count"]) (TV : TxtV K mg) (D3 : Df K mg "_is_row" sIsRow g3 gd3 ["row", "count"]) : FnOk P w K mg base CX0 4 f fd ["rows"] spCheck := by
  have G3 : FnOk P w K mg base CX0 3 g3 gd3 ["row", "count"] spIsRow := ok_isRow D3.F T TV D1 D2
  obtain ⟨tm, hmost⟩ := T.most
  refine F.ok scCheck (fun vs H Q E h => ?_) (fun cdv A outer s H vs Q E hr h => ?_)
  · obtain ⟨R, _, _, rfl, _⟩ := h
    rfl
  · obtain ⟨R, refs, ls, rfl, hR, hE, gd, kk⟩ := h
    refine ⟨_, pss_cons (ps_if (pt_not (pt_chain op_le op_le pe_int (pe_callB call_len_seq (by rfl) T.len_ PySem.boot_len (pa_cons (pv 0) pa_nil)) (pe_glob (v := .int 48) rfl hmost ⟨_, rfl⟩))) pss_never pss_nil)
      (pss_one (ps_if (pt_not (pt_val (pe_callB (cr_all rfl) (by rfl) T.all_ boot_all' (pa_cons (pe_lc (own := [("row", 1)]) (g := gName 1) (tt := tYes) (by rfl) scCheck.nd (pi_sq (pv 0)) (blkOk_by (N := ["rows", "row"]) (sc := defScope sCheck) (by decide +kernel))
          (fun _ _ _ _ _ => pg_name (i := 1) scCheck.nd rfl (Or.inl rfl)) (fun _ _ _ _ _ => pts_nil)
          (fun _ _ _ _ _ => pe_call G3 hr rfl D3.M D3.F.kp D3.B .nil pass0 (pa_cons (pv 1) (pa_cons (pe_callB (call_lenK (K := K) rfl) (by rfl) T.len_ PySem.boot_len (pa_cons (pv 0) pa_nil)) pa_nil)))) pa_nil)))) pss_never pss_nil)), ?_⟩
    have hlr : refs.length = ls.length := hE.1
    have h1 := gd.one
    have h48 := gd.most
    refine ⟨_, rfl, R, _, rfl, .inr (SqT.of hR), _, _, rfl, rfl, _, rfl, ifD_yes (by rw [hlr]; omega) ?_⟩
    refine ⟨_, _, rfl, rfl, _, rfl, ?_⟩
    rw [hlr]
    have h48' : ((ls.length : Int) ≤ 48) := by omega
    rw [decide_eq_true h48']
    refine iteF ?_
    refine ⟨.t, _, rfl, R, rfl, ⟨_, SqT.of hR⟩, fun Dd hD => ?_⟩
    refine lc_same (xs := refs) (walk_k (k := .t)) (by rw [hlr]; exact Nat.le_trans h48 (by decide)) hD (fun H' s' => SqT.of (s' _ _ hR)) ((List.replicate refs.length true).map V.bl) (by simp) (fun i x y H' Φ Ψ hx hy sm k => ?_) fun H' s' hd => ?_
    · obtain ⟨c, l, rfl, hl, hc⟩ := hE.at_ hx
      have ey : y = .bl true := by
        rw [List.getElem?_map, Option.map_eq_some_iff] at hy
        obtain ⟨b, hb, rfl⟩ := hy
        rw [(List.mem_replicate.mp (List.mem_of_getElem? hb)).2]
      subst ey
      refine ⟨rfl, ?_⟩
      dsimp only [tYes]
      rw [if_pos rfl]
      refine ⟨_, rfl, _, rfl, R, _, rfl, .inr (SqT.of (sm _ _ hR)), c, l, ls.length, congrArg (fun z : Nat => [V.ref c, V.int (z : Int)]) hlr, sm _ _ hc, gd.ok l (List.mem_of_getElem? hl), k⟩
    · refine ⟨Dd, _, rfl, SqL.of hd, ?_⟩
      rw [all_true]
      exact ⟨true, rfl, iteF (kk H' s')⟩
theorem scInit : FnScope ["self", "rows", "row"] ["self", "rows"] (defScope sInit) := ⟨rfl, rfl, rfl, by decide +kernel, rfl, by decide +kernel, by decide +kernel⟩
theorem ok_init {f g1 g2 g3 g4 : Addr} {fd gd1 gd2 gd3 gd4 : FuncData} (F : Fun K "__init__" "Claim.__init__" sInit f fd) (T : Txt K mg) (TV : TxtV K mg) (TC : TxtC K mg C Fo) (D1 : Df K mg "is_integer" sIsInt g1 gd1 ["value"]) (D2 : Df K mg "is_below" sBelow g2 gd2 ["value", "count"]) (D3 : Df K mg "_is_row" sIsRow g3 gd3 ["row", "count"]) (D4 : Df K mg "_check_rows" sCheck g4 gd4 ["rows"]) :
    FnOk P w K mg base CX0 5 f fd ["self", "rows"] (spInit K C) := by
  have G4 : FnOk P w K mg base CX0 4 g4 gd4 ["rows"] spCheck := ok_check D4.F T D1 D2 TV D3
  refine F.ok scInit (fun vs H Q E h => ?_) (fun cdv A outer s H vs Q E hr h => ?_)
  · obtain ⟨p, dx, L, _, _, rfl, _⟩ := h
    rfl
  · obtain ⟨p, dx, L, refs, ls, rfl, hp, hL, hE, gd, kk⟩ := h
    refine ⟨_, pss_one (ps_if (pt_val (pe_callB call_isi (by rfl) T.isi boot_isi (pa_cons (pv 1) (pa_cons (pe_glob (v := .ref Fo) rfl TC.mgF rfl) pa_nil)))) pss_never
        (pss_cons (ps_fld (pv 0) (pe_callTy call_tuple_of (by rfl) T.tup_ boot_tuple' (pa_cons (pe_lc (own := [("row", 2)]) (g := gName 2) (tt := tYes) (by rfl) scInit.nd (pi_sq (pv 1)) (blkOk_by (N := ["self", "rows", "row"]) (sc := defScope sInit) (by decide +kernel))
          (fun _ _ _ _ _ => pg_name (i := 2) scInit.nd rfl (Or.inl rfl)) (fun _ _ _ _ _ => pts_nil)
          (fun _ _ _ _ _ => pe_callTy (call_tupleK (K := K) rfl) (by rfl) T.tup_ boot_tuple' (pa_cons (pv 2) pa_nil))) pa_nil)) rfl)
        (pss_one (ps_expr (pe_call G4 hr rfl D4.M D4.F.kp D4.B .nil pass0 (pa_cons (pe_fld (pv 0) rfl) pa_nil)))))), ?_⟩
    have hlr : refs.length = ls.length := hE.1
    have hsz : refs.length ≤ sizeLine := by rw [hlr]; exact Nat.le_trans gd.most (by decide)
    obtain ⟨k, hk, hty⟩ : ∃ k, Sk K k H L refs ∧ ∃ t, TyX K H (.ref L) (.type t) ∧ PySem.W.kitOne K (.type t) (.ref Fo) = some false := by
      rcases hL with hL | hL
      · exact ⟨.l, SqL.of hL, "list", .base (.lst hL), TC.kl⟩
      · exact ⟨.t, SqT.of hL, "tuple", .base (.tup hL), TC.kt⟩
    obtain ⟨t, ht, hkit⟩ := hty
    refine ⟨_, rfl, _, _, _, _, _, rfl, .own Fo, ht, hkit, _, rfl, iteF ?_⟩
    refine ⟨k, _, rfl, L, rfl, ⟨_, hk⟩, fun Dd hD => ?_⟩
    refine lc_acc (xs := refs) (walk_k (k := k)) hsz hD (fun H' s' => hk.up s') (fun i acc H' => Ea H' isCr acc (ls.take i)) (fun i acc H' e => by rw [e.1, List.length_take]; omega) (by rw [List.take_zero]; exact Ea.nil) (fun i x H' acc Φ Ψ hi hx sm hd he kf => ?_) fun H1 acc s1 hd he => ?_
    · obtain ⟨c, l, rfl, hl, hc⟩ := hE.at_ hx
      refine ⟨rfl, ?_⟩
      dsimp only [tYes]
      rw [if_pos rfl]
      rcases hc with hc | hc
      · refine ⟨_, rfl, c, _, rfl, .inr ⟨SqT.of (sm _ _ hc), kf _ H' (fun _ _ e => e) hd fun H5 h5 b1 b2 => ?_⟩⟩
        rw [take_succ' hl]
        exact Ea.push (he.imp fun c' r' q => TupOf.but q hd b1) (TupOf.but (f := cv) (sm _ _ hc) hd b1)
      · refine ⟨_, rfl, c, _, rfl, .inl ⟨SqL.of (sm _ _ hc), fun q hq => ?_⟩⟩
        have sq := new_ (o := .tup (cv l)) hq
        refine kf _ _ sq (sq _ _ hd) fun H5 h5 b1 b2 => ?_
        rw [take_succ' hl]
        exact Ea.push (he.imp fun c' r' z => TupOf.but (f := cv) (sq _ _ z) (sq _ _ hd) b1) (TupOf.but (f := cv) upd_same (sq _ _ hd) b1)
    · rw [hlr, List.take_length] at he
      refine ⟨Dd, _, rfl, .inl ⟨SqL.of hd, fun l hl => ?_⟩⟩
      have sl := new_ (o := .tup acc) hl
      have hp1 := sl _ _ (s1 _ _ hp)
      refine ⟨_, rfl, p, C, dx, _, rfl, hp1, TC.cl, TC.nR, (by show 0 < 1000; decide), ?_⟩
      have hl1 : ∀ o : HO, (upd (upd H1 l (.tup acc)) p o) l = some (.tup acc) := fun o => by
        rw [upd_ne (ne_of hp1 upd_same (by intro z; cases z)).symm]
        exact upd_same
      refine ⟨_, rfl, p, C, dx, _, _, rfl, upd_same, TC.cl, TC.nR, rsf_rows l, l, acc, ls, rfl, hl1 _, ?_, gd, fun H2 s2 => ?_⟩
      · exact (he.same sl).imp fun c r q => TupOf.ins q hp1
      · refine kk H2 ⟨l, acc, s2 _ _ upd_same, s2 _ _ (hl1 _), ?_⟩ fun c o e hc => s2 _ _ (by rw [upd_ne hc]; exact sl _ _ (s1 _ _ e))
        exact ((he.same sl).imp fun c r q => TupOf.ins (f := cv) q hp1).same s2
theorem scFInit : FnScope ["self", "rows"] ["self", "rows"] (defScope sFInit) := ⟨rfl, rfl, rfl, by decide +kernel, rfl, by decide +kernel, by decide +kernel⟩
theorem ok_finit {f : Addr} {fd : FuncData} (F : Fun K "__init__" "Found.__init__" sFInit f fd) (T : Txt K mg) (TF : TxtF K Fo) : FnOk P w K mg base CX0 1 f fd ["self", "rows"] (spFInit Fo) := by
  refine F.ok scFInit (fun vs H Q E h => ?_) (fun cdv A0 outer s H vs Q E hr h => ?_)
  · obtain ⟨p, dx, L, _, rfl, _⟩ := h
    rfl
  · obtain ⟨p, dx, L, refs, rfl, hp, hL, hsz, kk⟩ := h
    refine ⟨_, pss_one (ps_fld (pv 0) (pe_callTy call_tuple_of (by rfl) T.tup_ boot_tuple' (pa_cons (pv 1) pa_nil)) rfl), ?_⟩
    refine ⟨_, rfl, L, _, rfl, .inl ⟨SqL.of hL, fun t ht => ?_⟩⟩
    have et := new_ (o := .tup refs) ht
    have hp1 := et _ _ hp
    refine ⟨_, rfl, p, Fo, dx, _, rfl, hp1, TF.cl, TF.nR, (by show 0 < 1000; decide), ?_⟩
    refine kk t _ upd_same ?_ fun c o e hc => ?_
    · rw [upd_ne (ne_of hp1 upd_same (by intro z; cases z)).symm]
      exact upd_same
    · rw [upd_ne hc]
      exact et _ _ e
theorem ok_initF {f : Addr} {fd : FuncData} (F : Fun K "__init__" "Claim.__init__" sInit f fd) (T : Txt K mg) (TC : TxtC K mg C Fo) (TF : TxtF K Fo) : FnOk P w K mg base CX0 1 f fd ["self", "rows"] (spInitF C Fo) := by
  refine F.ok scInit (fun vs H Q E h => ?_) (fun cdv A0 outer s H vs Q E hr h => ?_)
  · obtain ⟨p, dx, q, _, _, rfl, _⟩ := h
    rfl
  · obtain ⟨p, dx, q, dq, Tr, rfl, hp, hq, kk⟩ := h
    refine ⟨_, pss_one (ps_if (pt_val (pe_callB call_isi (by rfl) T.isi boot_isi (pa_cons (pv 1) (pa_cons (pe_glob (v := .ref Fo) rfl TC.mgF rfl) pa_nil)))) (pss_one (ps_fld (pv 0) (pe_fld (pv 1) rfl) rfl)) pss_never), ?_⟩
    refine ⟨_, rfl, _, _, _, _, _, rfl, .own Fo, .base (.ins hq TF.cl TF.q1 TF.q2 TF.q3 TF.q4), TF.kFF, _, rfl, iteT ?_⟩
    refine ⟨_, rfl, q, Fo, dq, _, _, rfl, hq, TF.cl, TF.nR, rsf_rows Tr, _, rfl, p, C, dx, _, rfl, hp, TC.cl, TC.nR, (by show 0 < 1000; decide), ?_⟩
    exact kk _ upd_same fun c o e hc => by rw [upd_ne hc]; exact e
/-- Claim(Found(..)) of a list of lines -/
theorem mk_found {H : Hp} {Q : VK} {E E' : XK} {L : Addr} {refs : List V} {ls : List Cr} (hL : H L = some (.lst refs)) (hE : Ea H isCr refs ls) (hsz : refs.length ≤ 1000) {q dq : Addr} (nq : H q = none) (ndq : H dq = none) (neq : dq ≠ q)
    (kk : ∀ H' T, Same H H' → H' q = some (.ins Fo dq (rsf T)) → H' T = some (.tup refs) → Q .non H') : spFInit Fo [V.ref q, V.ref L] (upd (upd H dq (.own q)) q (.ins Fo dq [])) Q E := by
  have s1 : Same H (upd (upd H dq (.own q)) q (.ins Fo dq [])) := fun c o e => by
    rw [upd_ne (ne_of_none e nq), upd_ne (ne_of_none e ndq)]
    exact e
  exact ⟨q, dq, L, refs, rfl, upd_same, s1 _ _ hL, hsz, fun T H' a b kp => kk H' T (fun c o e => kp c o (s1 _ _ e) (ne_of_none e nq)) a b⟩
theorem mk_setF {H : Hp} {Q : VK} {E : XK} {q dq T : Addr} {refs : List V} {ls : List Cr} (hq : H q = some (.ins Fo dq (rsf T))) (hT : H T = some (.tup refs)) (hE : Ea H isCr refs ls) {x dx : Addr} (nx : H x = none) (ndx : H dx = none) (nex : dx ≠ x)
    (kk : ∀ H', Same H H' → ClaimAt C H' x ls → Q .non H') : spInitF C Fo [V.ref x, V.ref q] (upd (upd H dx (.own x)) x (.ins C dx [])) Q E := by
  have s1 : Same H (upd (upd H dx (.own x)) x (.ins C dx [])) := fun c o e => by
    rw [upd_ne (ne_of_none e nx), upd_ne (ne_of_none e ndx)]
    exact e
  refine ⟨x, dx, q, dq, T, rfl, upd_same, s1 _ _ hq, fun H' a kp => ?_⟩
  have s2 : Same H H' := fun c o e => kp c o (s1 _ _ e) (ne_of_none e nx)
  exact kk H' s2 ⟨dx, T, refs, a, s2 _ _ hT, hE.same s2⟩
end
end PA

/-! tables read together, by words of calls: what joined makes, and the law's walk over three states -/
namespace JW
open JM (Ln sd en en_at en_lt LineOk fol Bd oc oc_inj oc_le fol_some fol_bd)
variable {A B J : List Ln}
/-- the state behind a word of calls -/
def wd (A : List Ln) : Option Nat → List Bool → Option Nat
  | o, [] => o
  | o, c :: w => wd A (o.bind fun i => en A i c) w
theorem wd_none : ∀ w : List Bool, wd A none w = none
  | [] => rfl
  | _ :: w => wd_none w
theorem wd_snoc : ∀ (w : List Bool) (o : Option Nat) (c : Bool), wd A o (w ++ [c]) = (wd A o w).bind fun i => en A i c
  | [], _, _ => rfl
  | _ :: w, _, c => wd_snoc w _ c
theorem wd_lt (h : LineOk A) : ∀ (w : List Bool) (o : Option Nat) (a : Nat), (∀ i, o = some i → i < A.length) → wd A o w = some a → a < A.length
  | [], _, a, ho, e => ho a e
  | c :: w, o, a, _, e => wd_lt h w _ a (fun i hi => by
      obtain ⟨j, _, hj⟩ := Option.bind_eq_some_iff.mp hi
      exact en_lt h hj) e
/-- whether the two together go on -/
def both (e : Bool) (a b : Option Nat) : Bool := if e = true then a.isSome || b.isSome else a.isSome && b.isSome
theorem fol_eq (e : Bool) (p : Ln) (c : Bool) : fol e A B p c = if both e (p.1.bind fun i => en A i c) (p.2.bind fun j => en B j c) = true then some (p.1.bind fun i => en A i c, p.2.bind fun j => en B j c) else none := by
  unfold fol both
  dsimp only
  cases e <;> cases (p.1.bind fun i => en A i c) <;> cases (p.2.bind fun j => en B j c) <;> rfl
/-- the pairs, and the joint table of them -/
structure JT (e : Bool) (A B : List Ln) (Pl R : List Ln) : Prop where
  z : Pl[0]? = some (some 0, some 0)
  len : R.length = Pl.length
  nxt : ∀ (k : Nat) (p : Ln) (c : Bool), Pl[k]? = some p → en R k c = (fol e A B p c).map (LF.ix Pl)
  mem : ∀ (k : Nat) (p : Ln) (c : Bool) (q : Ln), Pl[k]? = some p → fol e A B p c = some q → q ∈ Pl
theorem JT.one {e : Bool} {Pl R : List Ln} (j : JT e A B Pl R) : 1 ≤ R.length := by
  rw [j.len]
  exact (List.getElem?_eq_some_iff.mp j.z).1
theorem JT.ok {e : Bool} {Pl R : List Ln} (j : JT e A B Pl R) : LineOk R := by
  refine ⟨j.one, fun l hl c a h => ?_⟩
  obtain ⟨k, hk, rfl⟩ := List.getElem_of_mem hl
  have hk' : k < Pl.length := by rw [← j.len]; exact hk
  have h2 := j.nxt k _ c (List.getElem?_eq_getElem hk')
  rw [en_at (List.getElem?_eq_getElem hk), h] at h2
  obtain ⟨q, hq, rfl⟩ := Option.map_eq_some_iff.mp h2.symm
  rw [j.len]
  exact LF.ix_lt (j.mem k _ c q (List.getElem?_eq_getElem hk') hq)
theorem JT.wd {e : Bool} {Pl R : List Ln} (j : JT e A B Pl R) : ∀ (w : List Bool) (k : Nat) (p : Ln), Pl[k]? = some p → both e p.1 p.2 = true → (wd R (some k) w).isSome = both e (wd A p.1 w) (wd B p.2 w)
  | [], k, p, _, hb => by
    show (some k).isSome = both e p.1 p.2
    rw [hb]
    rfl
  | c :: w, k, p, hk, hb => by
    show (JW.wd R (en R k c) w).isSome = both e (JW.wd A (p.1.bind fun i => en A i c) w) (JW.wd B (p.2.bind fun i => en B i c) w)
    rw [j.nxt k p c hk]
    have hf := fol_eq (A := A) (B := B) e p c
    by_cases h : both e (p.1.bind fun i => en A i c) (p.2.bind fun j => en B j c) = true
    · rw [if_pos h] at hf
      rw [hf]
      exact JT.wd j w _ _ (LF.get_ix (j.mem k p c _ hk hf)) h
    · rw [if_neg h] at hf
      rw [hf]
      show (JW.wd R none w).isSome = _
      rw [wd_none]
      have hn : ∀ (a b : Option Nat) (a' b' : Option Nat), ¬ both e a b = true → (a = none → a' = none) → (b = none → b' = none) → both e a' b' = false := by
        intro a b a' b' h1 h2 h3
        cases e <;> cases a <;> cases b <;> simp [both] at h1 h2 h3 ⊢ <;> simp [h2, h3]
      exact (hn _ _ _ _ h (fun z => by rw [z, wd_none]) fun z => by rw [z, wd_none]).symm
theorem JT.word {e : Bool} {Pl R : List Ln} (j : JT e A B Pl R) (w : List Bool) : (JW.wd R (some 0) w).isSome = both e (JW.wd A (some 0) w) (JW.wd B (some 0) w) :=
  j.wd w 0 _ j.z (by cases e <;> rfl)
/-! ### while it is made -/
structure JP (A B : List Ln) (Pl : List Ln) : Prop where
  nd : Pl.Nodup
  z : Pl[0]? = some (some 0, some 0)
  bd : ∀ p ∈ Pl, Bd A B p
variable {Pl : List Ln}
theorem JP.init (hA : LineOk A) (hB : LineOk B) : JP A B [(some 0, some 0)] := by
  refine ⟨by simp, rfl, fun p hp => ?_⟩
  rw [List.mem_singleton.mp hp]
  exact ⟨fun a h => by cases h; exact hA.one, fun b h => by cases h; exact hB.one⟩
theorem JP.add (b : JP A B Pl) (hA : LineOk A) (hB : LineOk B) {e : Bool} {p q : Ln} {c : Bool} (h : fol e A B p c = some q) (hq : q ∉ Pl) : JP A B (Pl ++ [q]) := by
  refine ⟨LF.nodup_snoc b.nd hq, ?_, fun r hr => ?_⟩
  · rw [List.getElem?_append_left (List.getElem?_eq_some_iff.mp b.z).1]
    exact b.z
  · rcases List.mem_append.mp hr with hr | hr
    · exact b.bd r hr
    · rw [List.mem_singleton.mp hr]
      exact fol_bd hA hB h
theorem pairs_few {n m : Nat} (nd : Pl.Nodup) (bd : ∀ p ∈ Pl, (∀ a, p.1 = some a → a < n) ∧ ∀ b, p.2 = some b → b < m) : Pl.length ≤ (n + 1) * (m + 1) := by
  have h1 : (Pl.map (JM.pc m)).Nodup := by
    rw [List.Nodup, List.pairwise_map]
    refine List.Pairwise.imp_of_mem ?_ nd
    intro p q hp hq ne e
    refine ne ?_
    have b1 := oc_le (bd p hp).2
    have b2 := oc_le (bd q hq).2
    unfold JM.pc at e
    have m1 : (oc p.1 * (m + 1) + oc p.2) % (m + 1) = oc p.2 := by rw [Nat.mul_comm, Nat.mul_add_mod, Nat.mod_eq_of_lt (by omega)]
    have m2 : (oc q.1 * (m + 1) + oc q.2) % (m + 1) = oc q.2 := by rw [Nat.mul_comm, Nat.mul_add_mod, Nat.mod_eq_of_lt (by omega)]
    have d1 : (oc p.1 * (m + 1) + oc p.2) / (m + 1) = oc p.1 := by rw [Nat.mul_comm, Nat.mul_add_div (by omega), Nat.div_eq_of_lt (by omega), Nat.add_zero]
    have d2 : (oc q.1 * (m + 1) + oc q.2) / (m + 1) = oc q.1 := by rw [Nat.mul_comm, Nat.mul_add_div (by omega), Nat.div_eq_of_lt (by omega), Nat.add_zero]
    exact Prod.ext (oc_inj (by rw [← d1, e, d2])) (oc_inj (by rw [← m1, e, m2]))
  have h2 := LF.few ((n + 1) * (m + 1)) h1 fun x hx => by
    obtain ⟨p, hp, rfl⟩ := List.mem_map.mp hx
    have b1 := oc_le (bd p hp).1
    have b2 := oc_le (bd p hp).2
    unfold JM.pc
    have := Nat.mul_le_mul_right (m + 1) b1
    rw [Nat.succ_mul]
    omega
  rwa [List.length_map] at h2
theorem JP.few (b : JP A B Pl) : Pl.length ≤ (A.length + 1) * (B.length + 1) := pairs_few b.nd b.bd
/-- the first rows are right -/
def JC (e : Bool) (A B : List Ln) (Pl R : List Ln) : Prop := ∀ (k : Nat) (p : Ln) (c : Bool), k < R.length → Pl[k]? = some p → en R k c = (fol e A B p c).map (LF.ix Pl) ∧ ∀ q, fol e A B p c = some q → q ∈ Pl
theorem JC.more {e : Bool} {R : List Ln} (h : JC e A B Pl R) (X : List Ln) (hd : R.length ≤ Pl.length) : JC e A B (Pl ++ X) R := fun k p c hk hp => by
  rw [List.getElem?_append_left (by omega)] at hp
  obtain ⟨h1, h2⟩ := h k p c hk hp
  refine ⟨?_, fun q e => List.mem_append.mpr (.inl (h2 q e))⟩
  rw [h1]
  cases hf : fol e A B p c with
  | none => rfl
  | some q => exact congrArg some (LF.ix_app (h2 q hf)).symm
theorem JC.row {e : Bool} {R : List Ln} (h : JC e A B Pl R) {p : Ln} (hp : Pl[R.length]? = some p) (hm : ∀ c q, fol e A B p c = some q → q ∈ Pl) : JC e A B Pl (R ++ [((fol e A B p false).map (LF.ix Pl), (fol e A B p true).map (LF.ix Pl))]) := fun k p' c hk hp' => by
  rw [List.length_append, List.length_singleton] at hk
  by_cases hk' : k < R.length
  · have := h k p' c hk' hp'
    refine ⟨?_, this.2⟩
    rw [← this.1]
    unfold en
    rw [List.getElem?_append_left hk']
  · obtain rfl : k = R.length := by omega
    rw [hp] at hp'
    cases hp'
    refine ⟨?_, hm c⟩
    rw [en_at (l := ((fol e A B p false).map (LF.ix Pl), (fol e A B p true).map (LF.ix Pl))) (by rw [List.getElem?_append_right (Nat.le_refl _), Nat.sub_self]; rfl)]
    cases c <;> rfl
theorem JC.done {e : Bool} {R : List Ln} (b : JP A B Pl) (h : JC e A B Pl R) (hl : R.length = Pl.length) : JT e A B Pl R :=
  ⟨b.z, hl, fun k p c hk => (h k p c (by rw [hl]; exact (List.getElem?_eq_some_iff.mp hk).1) hk).1, fun k p c q hk => (h k p c (by rw [hl]; exact (List.getElem?_eq_some_iff.mp hk).1) hk).2 q⟩
/-! ### the law's walk over three states -/
def Ex (e : Bool) (A B J : List Ln) : Prop := ∀ w, (wd J (some 0) w).isSome = both e (wd A (some 0) w) (wd B (some 0) w)
abbrev Tr := Option Nat × Option Nat × Nat
/-- three states that some word leads to -/
def At3 (A B J : List Ln) (t : Tr) : Prop := ∃ w, wd A (some 0) w = t.1 ∧ wd B (some 0) w = t.2.1 ∧ wd J (some 0) w = some t.2.2
theorem At3.z : At3 A B J (some 0, some 0, 0) := ⟨[], rfl, rfl, rfl⟩
theorem At3.due {e : Bool} (x : Ex e A B J) {t : Tr} (h : At3 A B J t) (c : Bool) : (en J t.2.2 c).isSome = both e (t.1.bind fun i => en A i c) (t.2.1.bind fun i => en B i c) := by
  obtain ⟨w, h1, h2, h3⟩ := h
  have := x (w ++ [c])
  rw [wd_snoc, wd_snoc, wd_snoc, h1, h2, h3] at this
  exact this
theorem At3.step {t : Tr} (h : At3 A B J t) {c : Bool} {n : Nat} (hn : en J t.2.2 c = some n) : At3 A B J (t.1.bind fun i => en A i c, t.2.1.bind fun i => en B i c, n) := by
  obtain ⟨w, h1, h2, h3⟩ := h
  refine ⟨w ++ [c], ?_, ?_, ?_⟩
  · rw [wd_snoc, h1]
  · rw [wd_snoc, h2]
  · rw [wd_snoc, h3]
    exact hn
theorem At3.bd (hA : LineOk A) (hB : LineOk B) (hJ : LineOk J) {t : Tr} (h : At3 A B J t) : (∀ a, t.1 = some a → a < A.length) ∧ (∀ a, t.2.1 = some a → a < B.length) ∧ t.2.2 < J.length := by
  obtain ⟨w, h1, h2, h3⟩ := h
  refine ⟨fun a e => wd_lt hA w _ a (fun i hi => by cases hi; exact hA.one) (h1.trans e), fun a e => wd_lt hB w _ a (fun i hi => by cases hi; exact hB.one) (h2.trans e), wd_lt hJ w _ _ (fun i hi => by cases hi; exact hJ.one) h3⟩
def tc (m j : Nat) (t : Tr) : Nat := (oc t.1 * (m + 1) + oc t.2.1) * j + t.2.2
theorem tr_few {n m j : Nat} {Sn : List Tr} (hj : 0 < j) (nd : Sn.Nodup) (bd : ∀ t ∈ Sn, (∀ a, t.1 = some a → a < n) ∧ (∀ a, t.2.1 = some a → a < m) ∧ t.2.2 < j) : Sn.length ≤ (n + 1) * (m + 1) * j := by
  have h1 : (Sn.map (tc m j)).Nodup := by
    rw [List.Nodup, List.pairwise_map]
    refine List.Pairwise.imp_of_mem ?_ nd
    intro p q hp hq ne e
    refine ne ?_
    obtain ⟨_, p2, p3⟩ := bd p hp
    obtain ⟨_, q2, q3⟩ := bd q hq
    have b1 := oc_le p2
    have b2 := oc_le q2
    unfold tc at e
    have m1 : ((oc p.1 * (m + 1) + oc p.2.1) * j + p.2.2) % j = p.2.2 := by rw [Nat.mul_comm, Nat.mul_add_mod, Nat.mod_eq_of_lt p3]
    have m2 : ((oc q.1 * (m + 1) + oc q.2.1) * j + q.2.2) % j = q.2.2 := by rw [Nat.mul_comm, Nat.mul_add_mod, Nat.mod_eq_of_lt q3]
    have d1 : ((oc p.1 * (m + 1) + oc p.2.1) * j + p.2.2) / j = oc p.1 * (m + 1) + oc p.2.1 := by rw [Nat.mul_comm, Nat.mul_add_div hj, Nat.div_eq_of_lt p3, Nat.add_zero]
    have d2 : ((oc q.1 * (m + 1) + oc q.2.1) * j + q.2.2) / j = oc q.1 * (m + 1) + oc q.2.1 := by rw [Nat.mul_comm, Nat.mul_add_div hj, Nat.div_eq_of_lt q3, Nat.add_zero]
    have e3 : p.2.2 = q.2.2 := by rw [← m1, e, m2]
    have e4 : oc p.1 * (m + 1) + oc p.2.1 = oc q.1 * (m + 1) + oc q.2.1 := by rw [← d1, e, d2]
    have m3 : (oc p.1 * (m + 1) + oc p.2.1) % (m + 1) = oc p.2.1 := by rw [Nat.mul_comm, Nat.mul_add_mod, Nat.mod_eq_of_lt (by omega)]
    have m4 : (oc q.1 * (m + 1) + oc q.2.1) % (m + 1) = oc q.2.1 := by rw [Nat.mul_comm, Nat.mul_add_mod, Nat.mod_eq_of_lt (by omega)]
    have d3 : (oc p.1 * (m + 1) + oc p.2.1) / (m + 1) = oc p.1 := by rw [Nat.mul_comm, Nat.mul_add_div (by omega), Nat.div_eq_of_lt (by omega), Nat.add_zero]
    have d4 : (oc q.1 * (m + 1) + oc q.2.1) / (m + 1) = oc q.1 := by rw [Nat.mul_comm, Nat.mul_add_div (by omega), Nat.div_eq_of_lt (by omega), Nat.add_zero]
    exact Prod.ext (oc_inj (by rw [← d3, e4, d4])) (Prod.ext (oc_inj (by rw [← m3, e4, m4])) e3)
  have h2 := LF.few ((n + 1) * (m + 1) * j) h1 fun x hx => by
    obtain ⟨p, hp, rfl⟩ := List.mem_map.mp hx
    obtain ⟨p1, p2, p3⟩ := bd p hp
    have b1 := oc_le p1
    have b2 := oc_le p2
    unfold tc
    have h3 : oc p.1 * (m + 1) + oc p.2.1 < (n + 1) * (m + 1) := by
      have := Nat.mul_le_mul_right (m + 1) b1
      rw [Nat.succ_mul]
      omega
    have h4 := Nat.mul_le_mul_right j (Nat.succ_le_of_lt h3)
    rw [Nat.succ_mul] at h4
    omega
  rwa [List.length_map] at h2
/-! ### languages -/
theorem tbl_lang_step {i k : Nat} {R R' : List Ln} (h : ∀ w, (wd R (some i) w).isSome = (wd R' (some k) w).isSome) (c : Bool) : (en R i c).isSome = (en R' k c).isSome := h [c]
theorem lang_next {i k i' k' : Nat} {R R' : List Ln} (h : ∀ w, (wd R (some i) w).isSome = (wd R' (some k) w).isSome) {c : Bool} (h1 : en R i c = some i') (h2 : en R' k c = some k') : ∀ w, (wd R (some i') w).isSome = (wd R' (some k') w).isSome := fun w => by
  have := h (c :: w)
  have e1 : wd R (some i) (c :: w) = wd R (en R i c) w := rfl
  have e2 : wd R' (some k) (c :: w) = wd R' (en R' k c) w := rfl
  rw [e1, e2, h1, h2] at this
  exact this
end JW

/-! claims: tables whose states have a number; what two claims joined say -/
namespace JK
open JM (Ln sd en en_at en_lt LineOk fol Bd fol_some fol_bd)
open JW (wd wd_none wd_snoc both fol_eq JP JT)
variable {A B : List Ln} {Pl : List Ln}
structure JQ (e : Bool) (A B : List Ln) (Pl : List Ln) : Prop extends JP A B Pl where
  bt : ∀ p ∈ Pl, both e p.1 p.2 = true
theorem JQ.init {e : Bool} (hA : LineOk A) (hB : LineOk B) : JQ e A B [(some 0, some 0)] :=
  ⟨JP.init hA hB, fun p hp => by rw [List.mem_singleton.mp hp]; cases e <;> rfl⟩
theorem JQ.add {e : Bool} (b : JQ e A B Pl) (hA : LineOk A) (hB : LineOk B) {p q : Ln} {c : Bool} (h : fol e A B p c = some q) (hq : q ∉ Pl) : JQ e A B (Pl ++ [q]) := by
  refine ⟨b.toJP.add hA hB h hq, fun r hr => ?_⟩
  rcases List.mem_append.mp hr with hr | hr
  · exact b.bt r hr
  · rw [List.mem_singleton.mp hr]
    rw [fol_eq] at h
    by_cases hb : both e (p.1.bind fun i => en A i c) (p.2.bind fun j => en B j c) = true
    · rw [if_pos hb] at h
      cases h
      exact hb
    · rw [if_neg hb] at h
      cases h
/-- the pair of a state of the joint table -/
theorem at_pair {e : Bool} {R : List Ln} (j : JT e A B Pl R) : ∀ (w : List Bool) (k k' : Nat) (p : Ln), Pl[k]? = some p → wd R (some k) w = some k' → Pl[k']? = some (wd A p.1 w, wd B p.2 w)
  | [], k, k', p, hk, h => by
    cases h
    exact hk
  | c :: w, k, k', p, hk, h => by
    have h : wd R (en R k c) w = some k' := h
    rw [j.nxt k p c hk] at h
    cases hf : fol e A B p c with
    | none =>
      rw [hf] at h
      have : wd R none w = some k' := h
      rw [wd_none] at this
      cases this
    | some q =>
      rw [hf] at h
      have := at_pair j w _ k' q (LF.get_ix (j.mem k p c q hk hf)) h
      obtain ⟨rfl, _⟩ := fol_some hf
      exact this
abbrev Cr := Nat × Nat × Nat
def lnC (r : Cr) : Ln := (some r.1, some r.2.1)
/-- the number of a state -/
def num (A : List Cr) (i : Nat) : Nat := ((A[i]?).map (·.2.2)).getD 0
theorem num_at {A : List Cr} {i : Nat} {r : Cr} (h : A[i]? = some r) : num A i = r.2.2 := by
  unfold num
  rw [h]
  rfl
abbrev RN := LF.Row Nat
/-- lines with numbers, as a table -/
def tbN (x : Ln × Nat) : RN := (x.1.1.getD 0, x.2, x.1.2.getD 0, x.2)
def tblN (ps : List Ln) (ns : List Nat) : List RN := (ps.zip ns).map tbN
def crOf (r : RN) : Cr := (r.1, r.2.2.1, r.2.1)
def leastC (ps : List Ln) (ns : List Nat) : List Cr := (LF.lf (tblN ps ns) [0]).1.map crOf
/-- lines without None -/
def Full (n : Nat) (ps : List Ln) : Prop := ∀ l ∈ ps, ∃ a b, l = (some a, some b) ∧ a < n ∧ b < n
structure NOk (ps : List Ln) (ns : List Nat) : Prop where
  one : 1 ≤ ps.length
  len : ns.length = ps.length
  full : Full ps.length ps
  lt : ∀ x ∈ ns, x < 4
variable {ps : List Ln} {ns : List Nat}
theorem tblN_len (o : NOk ps ns) : (tblN ps ns).length = ps.length := by
  unfold tblN
  rw [List.length_map, List.length_zip, o.len, Nat.min_self]
theorem tblN_at (o : NOk ps ns) {i : Nat} (h : i < ps.length) : ∃ a b n, ps[i]? = some (some a, some b) ∧ ns[i]? = some n ∧ (tblN ps ns)[i]? = some (a, n, b, n) ∧ a < ps.length ∧ b < ps.length ∧ n < 4 := by
  obtain ⟨a, b, e, h1, h2⟩ := o.full ps[i] (List.getElem_mem h)
  have hn : i < ns.length := by rw [o.len]; exact h
  refine ⟨a, b, ns[i], by rw [List.getElem?_eq_getElem h, e], List.getElem?_eq_getElem hn, ?_, h1, h2, o.lt _ (List.getElem_mem hn)⟩
  unfold tblN
  rw [List.getElem?_map, (List.getElem?_zip_eq_some (z := (ps[i], ns[i]))).mpr ⟨List.getElem?_eq_getElem h, List.getElem?_eq_getElem hn⟩]
  show some (tbN (ps[i], ns[i])) = _
  rw [e]
  rfl
theorem tblN_ok (o : NOk ps ns) : LF.TOk (tblN ps ns) := by
  intro r hr
  obtain ⟨i, hi, rfl⟩ := List.getElem_of_mem hr
  rw [tblN_len o] at hi
  obtain ⟨a, b, n, _, _, h3, h4, h5, _⟩ := tblN_at o hi
  have := (List.getElem?_eq_some_iff.mp h3).2
  rw [this, tblN_len o]
  exact ⟨h4, h5⟩
theorem st0 (o : NOk ps ns) : ∀ x ∈ [0], x < (tblN ps ns).length := fun x hx => by
  rw [List.mem_singleton.mp hx, tblN_len o]
  exact o.one
/-- the labels of a least form are labels of the table -/
theorem lf_lab {L : Type} [DecidableEq L] {T : List (LF.Row L)} (starts : List Nat) {r : LF.Row L} (h : r ∈ (LF.lf T starts).1) : ∃ r0 ∈ T, r.2.1 = r0.2.1 ∧ r.2.2.2 = r0.2.2.2 := by
  have h : r ∈ LF.laid (LF.mg T) (LF.ord (LF.mg T) (starts.map (LF.at_ (LF.cls T)))) := h
  unfold LF.laid at h
  obtain ⟨s, _, hs⟩ := List.mem_filterMap.mp h
  obtain ⟨r1, h1, rfl⟩ := Option.map_eq_some_iff.mp hs
  have hk := (List.getElem?_eq_some_iff.mp h1).1
  obtain ⟨j, hj, e⟩ := LF.mg_onto hk
  obtain ⟨j0, r0, h2, _, h4⟩ := LF.mg_get hj
  rw [e, h1] at h4
  cases h4
  exact ⟨r0, List.mem_of_getElem? h2, rfl, rfl⟩
theorem lf_eq (o : NOk ps ns) {r : RN} (h : r ∈ (LF.lf (tblN ps ns) [0]).1) : r.2.2.2 = r.2.1 ∧ r.2.1 < 4 := by
  obtain ⟨r0, h0, e1, e2⟩ := lf_lab [0] h
  obtain ⟨i, hi, rfl⟩ := List.getElem_of_mem h0
  rw [tblN_len o] at hi
  obtain ⟨a, b, n, _, _, h3, _, _, h6⟩ := tblN_at o hi
  have := (List.getElem?_eq_some_iff.mp h3).2
  rw [this] at e1 e2
  exact ⟨by rw [e2, e1], by rw [e1]; exact h6⟩
theorem leastC_len (o : NOk ps ns) : (leastC ps ns).length ≤ ps.length := by
  unfold leastC
  rw [List.length_map]
  have := LF.lf_le (tblN_ok o) (st0 o)
  rwa [tblN_len o] at this
theorem lf_st0 (o : NOk ps ns) : ∃ x, (LF.lf (tblN ps ns) [0]).2 = [x] ∧ x < (LF.lf (tblN ps ns) [0]).1.length ∧ LF.RR (LF.lf (tblN ps ns) [0]).1 (tblN ps ns) x 0 := by
  have ok := tblN_ok o
  have s0 := st0 o
  have hl := LF.lf_len (rows := tblN ps ns) (starts := [0])
  obtain ⟨x, hx⟩ : ∃ x, (LF.lf (tblN ps ns) [0]).2 = [x] := by
    match h : (LF.lf (tblN ps ns) [0]).2, hl with
    | [x], _ => exact ⟨x, rfl⟩
  have h1 := LF.lf_st ok s0 x (by rw [hx]; simp)
  have h2 := LF.lf_alk ok s0
  rw [hx] at h2
  have h3 := h2.get (i := 0) rfl rfl
  exact ⟨x, hx, h1, h1, s0 0 (by simp), h3⟩
/-- its first state is the state 0 -/
theorem lf_0 (o : NOk ps ns) : (LF.lf (tblN ps ns) [0]).2 = [0] := by
  have ok := tblN_ok o
  have s0 := st0 o
  have e := LF.ord_lf ok s0
  obtain ⟨x, hx, h1, _⟩ := lf_st0 o
  rw [hx] at e ⊢
  obtain ⟨t, ht⟩ := ord_hd (m := (LF.lf (tblN ps ns) [0]).1) h1
  rw [ht] at e
  cases hn : (LF.lf (tblN ps ns) [0]).1.length with
  | zero => omega
  | succ k =>
    rw [hn, List.range_succ_eq_map] at e
    injection e with e1 _
    rw [e1]
where
  ord_hd {m : List RN} {x : Nat} (h : x < m.length) : ∃ t, LF.ord m [x] = x :: t := by
    unfold LF.ord
    have hr : m[x]? = some m[x] := List.getElem?_eq_getElem h
    have key : ∀ (f : Nat) (w s : List Nat), ∃ t, LF.visit m f w s = s ++ t := by
      intro f
      induction f with
      | zero => exact fun w s => ⟨[], by cases w <;> simp [LF.visit]⟩
      | succ f ih =>
        intro w s
        cases w with
        | nil => exact ⟨[], by simp [LF.visit]⟩
        | cons y w =>
          by_cases hy : y ∈ s
          · rw [LF.visit_old hy]
            exact ih w s
          · cases hm : m[y]? with
            | none => exact ⟨[], by simp [LF.visit, hy, hm]⟩
            | some r =>
              rw [LF.visit_new hy hm]
              obtain ⟨t, ht⟩ := ih (w ++ [r.1, r.2.2.1]) (s ++ [y])
              exact ⟨y :: t, by rw [ht]; simp⟩
    show ∃ t, LF.visit m (1 + 2 * m.length) [x] [] = x :: t
    rw [Nat.add_comm 1, LF.visit_new (by simp) hr]
    obtain ⟨t, ht⟩ := key (2 * m.length) ([] ++ [m[x].1, m[x].2.2.1]) ([] ++ [x])
    exact ⟨t, by rw [ht]; rfl⟩
theorem leastC_one (o : NOk ps ns) : 1 ≤ (leastC ps ns).length := by
  obtain ⟨x, _, h1, _⟩ := lf_st0 o
  unfold leastC
  rw [List.length_map]
  omega
theorem leastC_ok (o : NOk ps ns) : ∀ r ∈ leastC ps ns, r.1 < (leastC ps ns).length ∧ r.2.1 < (leastC ps ns).length ∧ r.2.2 < 4 := by
  intro r hr
  unfold leastC at hr ⊢
  obtain ⟨r0, h0, rfl⟩ := List.mem_map.mp hr
  rw [List.length_map]
  have h1 := LF.laid_ok (tblN_ok o) (st0 o) r0 h0
  exact ⟨h1.1, h1.2, (lf_eq o h0).2⟩
/-- the same word leads to states of the same number -/
theorem words (o : NOk ps ns) : ∀ (w : List Bool) {i j : Nat}, LF.RR (LF.lf (tblN ps ns) [0]).1 (tblN ps ns) j i → ∃ i' j', wd ps (some i) w = some i' ∧ wd ((leastC ps ns).map lnC) (some j) w = some j' ∧ LF.RR (LF.lf (tblN ps ns) [0]).1 (tblN ps ns) j' i'
  | [], i, j, h => ⟨i, j, rfl, rfl, h⟩
  | c :: w, i, j, h => by
    have hi : i < ps.length := by rw [← tblN_len o]; exact h.2.1
    obtain ⟨a, b, n, g1, g2, g3, _⟩ := tblN_at o hi
    obtain ⟨rj, hj⟩ : ∃ r, (LF.lf (tblN ps ns) [0]).1[j]? = some r := ⟨_, List.getElem?_eq_getElem h.1⟩
    obtain ⟨_, r1, r2⟩ := LF.rr_step (LF.laid_ok (tblN_ok o) (st0 o)) (tblN_ok o) h hj g3
    have e1 : en ps i c = if c = true then some b else some a := by
      rw [en_at g1]
      cases c <;> rfl
    have e2 : en ((leastC ps ns).map lnC) j c = if c = true then some rj.2.2.1 else some rj.1 := by
      have : ((leastC ps ns).map lnC)[j]? = some (lnC (crOf rj)) := by
        unfold leastC
        rw [List.getElem?_map, List.getElem?_map, hj]
        rfl
      rw [en_at this]
      cases c <;> rfl
    show ∃ i' j', wd ps (en ps i c) w = some i' ∧ wd ((leastC ps ns).map lnC) (en ((leastC ps ns).map lnC) j c) w = some j' ∧ _
    rw [e1, e2]
    cases c with
    | true => exact words o w r2
    | false => exact words o w r1
theorem num_rr (o : NOk ps ns) {i j : Nat} (h : LF.RR (LF.lf (tblN ps ns) [0]).1 (tblN ps ns) j i) : ns[i]? = some (num (leastC ps ns) j) := by
  have hi : i < ps.length := by rw [← tblN_len o]; exact h.2.1
  obtain ⟨a, b, n, g1, g2, g3, _⟩ := tblN_at o hi
  obtain ⟨rj, hj⟩ : ∃ r, (LF.lf (tblN ps ns) [0]).1[j]? = some r := ⟨_, List.getElem?_eq_getElem h.1⟩
  obtain ⟨k, _, _⟩ := LF.rr_step (LF.laid_ok (tblN_ok o) (st0 o)) (tblN_ok o) h hj g3
  have e : (leastC ps ns)[j]? = some (crOf rj) := by
    unfold leastC
    rw [List.getElem?_map, hj]
    rfl
  rw [num_at e, g2]
  have := congrArg Prod.fst k
  exact congrArg some this.symm
/-- a word of the least claim and of the table -/
theorem least_word (o : NOk ps ns) (w : List Bool) : ∃ i j, wd ps (some 0) w = some i ∧ wd ((leastC ps ns).map lnC) (some 0) w = some j ∧ ns[i]? = some (num (leastC ps ns) j) := by
  obtain ⟨x, hx, _, h⟩ := lf_st0 o
  rw [lf_0 o] at hx
  cases hx
  obtain ⟨i', j', h1, h2, h3⟩ := words o w h
  exact ⟨i', j', h1, h2, num_rr o h3⟩
/-- what a claim says of two others -/
def XC (op : Nat → Nat → Nat) (A B J : List Cr) : Prop := ∀ w i j k, wd (A.map lnC) (some 0) w = some i → wd (B.map lnC) (some 0) w = some j → wd (J.map lnC) (some 0) w = some k → num J k = op (num A i) (num B j)
theorem xc_join {A B : List Cr} {R : List Ln} {e : Bool} {op : Nat → Nat → Nat} (j : JT e (A.map lnC) (B.map lnC) Pl R) (o : NOk R ns) (hn : ∀ (k a b : Nat), Pl[k]? = some (some a, some b) → ns[k]? = some (op (num A a) (num B b))) : XC op A B (leastC R ns) := by
  intro w i j' k h1 h2 h3
  obtain ⟨m, k', g1, g2, g3⟩ := least_word o w
  rw [h3] at g2
  cases g2
  have g4 := at_pair j w 0 m _ j.z g1
  rw [h1, h2] at g4
  have g5 := hn m i j' g4
  rw [g3] at g5
  exact Option.some.inj g5
theorem xc_one {A : List Cr} {op : Nat → Nat} (o : NOk (A.map lnC) ns) (hn : ∀ k : Nat, k < A.length → ns[k]? = some (op (num A k))) (hA : LineOk (A.map lnC)) : XC (fun a _ => op a) A A (leastC (A.map lnC) ns) := by
  intro w i j' k h1 h2 h3
  obtain ⟨m, k', g1, g2, g3⟩ := least_word o w
  rw [h3] at g2
  cases g2
  rw [h1] at g1
  cases g1
  have hi : i < A.length := by
    have := JW.wd_lt hA w _ i (fun z hz => by cases hz; exact hA.one) h1
    rwa [List.length_map] at this
  have g5 := hn i hi
  rw [g3] at g5
  exact Option.some.inj g5
theorem full_join {R : List Ln} (j : JT false A B Pl R) (q : JQ false A B Pl) (fA : Full A.length A) (fB : Full B.length B) : Full R.length R := by
  intro l hl
  obtain ⟨k, hk, rfl⟩ := List.getElem_of_mem hl
  have hk' : k < Pl.length := by rw [← j.len]; exact hk
  have hp := List.getElem?_eq_getElem hk'
  have hm : Pl[k] ∈ Pl := List.getElem_mem hk'
  have b1 := q.bt _ hm
  have b2 := q.bd _ hm
  generalize Pl[k] = p at hp b1 b2
  obtain ⟨p1, p2⟩ := p
  obtain ⟨i, rfl⟩ : ∃ i, p1 = some i := by cases p1 with | none => cases b1 | some i => exact ⟨i, rfl⟩
  obtain ⟨m, rfl⟩ : ∃ m, p2 = some m := by cases p2 with | none => cases b1 | some m => exact ⟨m, rfl⟩
  have hi := b2.1 i rfl
  have hm2 := b2.2 m rfl
  obtain ⟨a1, a2, ea, _, _⟩ := fA A[i] (List.getElem_mem hi)
  obtain ⟨c1, c2, ec, _, _⟩ := fB B[m] (List.getElem_mem hm2)
  have step : ∀ c, ∃ x, sd R[k] c = some x ∧ x < R.length := by
    intro c
    have e1 : en A i c = some (if c = true then a2 else a1) := by
      rw [en_at (List.getElem?_eq_getElem hi), ea]
      cases c <;> rfl
    have e2 : en B m c = some (if c = true then c2 else c1) := by
      rw [en_at (List.getElem?_eq_getElem hm2), ec]
      cases c <;> rfl
    have hf : fol false A B (some i, some m) c = some (some (if c = true then a2 else a1), some (if c = true then c2 else c1)) := by
      rw [fol_eq]
      show (if both false (en A i c) (en B m c) = true then some (en A i c, en B m c) else none) = _
      rw [e1, e2]
      rfl
    have h2 := j.nxt k _ c hp
    rw [hf, en_at (List.getElem?_eq_getElem hk)] at h2
    exact ⟨_, h2, by rw [j.len]; exact LF.ix_lt (j.mem k _ c _ hp hf)⟩
  obtain ⟨x, hx, lx⟩ := step false
  obtain ⟨y, hy, ly⟩ := step true
  exact ⟨x, y, Prod.ext hx hy, lx, ly⟩
/-- a table of full lines goes on for ever -/
theorem full_wd {n : Nat} (hps : Full n ps) (hl : n = ps.length) : ∀ (w : List Bool) {i : Nat}, i < ps.length → ∃ j, wd ps (some i) w = some j ∧ j < ps.length
  | [], i, hi => ⟨i, rfl, hi⟩
  | c :: w, i, hi => by
    obtain ⟨a, b, e, h1, h2⟩ := hps ps[i] (List.getElem_mem hi)
    have g : en ps i c = if c = true then some b else some a := by
      rw [en_at (List.getElem?_eq_getElem hi), e]
      cases c <;> rfl
    show ∃ j, wd ps (en ps i c) w = some j ∧ _
    rw [g]
    cases c with
    | true => exact full_wd hps hl w (by omega)
    | false => exact full_wd hps hl w (by omega)
end JK

set_option maxHeartbeats 8000000
namespace PA
open PySem L2 RZ
open C8 (pss_cut tCut)
open JM (fol Bd en)
abbrev sFol : Stmt := top 11
abbrev sJoin : Stmt := top 10
abbrev NFol : List Str := ["first", "second", "pair", "at", "either", "one", "two", "ended"]
def bV (c : Bool) : V := .int (if c = true then 1 else 0)
theorem ev_non (o : Option Nat) : decide (ev o = V.non) = o.isNone := by
  cases o with
  | none => rfl
  | some n => exact decide_eq_false (by intro z; cases z)
/-- a tuple that begins with the two states of a line -/
def Lead (H : Hp) (c : Addr) (l : Ln) : Prop := ∃ u : List V, u.length ≤ 1 ∧ H c = some (.tup (ev l.1 :: ev l.2 :: u))
theorem at_lead {l : Ln} {u : List V} (c : Bool) : atI (ev l.1 :: ev l.2 :: u) (if c = true then 1 else 0) = some (ev (JM.sd l c)) := by
  cases c with
  | false => exact atI_nat (i := 0) rfl
  | true => exact atI_nat (i := 1) rfl
theorem Ea.leadL {H : Hp} {refs : List V} {A : List Ln} (e : Ea H isLn refs A) : Ea H Lead refs A := e.imp fun c r q => ⟨[], Nat.zero_le _, q⟩
theorem Ea.lead {H : Hp} {refs : List V} {A : List Cr} (e : Ea H isCr refs A) : Ea H Lead refs (A.map JK.lnC) := by
  refine ⟨by rw [List.length_map]; exact e.1, fun i x r h1 h2 => ?_⟩
  rw [List.getElem?_map, Option.map_eq_some_iff] at h2
  obtain ⟨r0, h2, rfl⟩ := h2
  obtain ⟨c, hc, q⟩ := e.2 i x r0 h1 h2
  exact ⟨c, hc, [.str (vt r0.2.2)], Nat.le_refl _, q⟩
theorem Ea.lsame {H H' : Hp} {refs : List V} {A : List Ln} (e : Ea H Lead refs A) (s : Same H H') : Ea H' Lead refs A := e.imp fun c r ⟨u, h, q⟩ => ⟨u, h, s _ _ q⟩
def spFol (K : PySem.W.Frag) : Sp := fun vs H Q _ => ∃ (R1 R2 pc : Addr) (refs1 refs2 : List V) (A B : List Ln) (p : Ln) (c e : Bool), vs = [.ref R1, .ref R2, .ref pc, bV c, .bl e] ∧ H R1 = some (.tup refs1) ∧ Ea H Lead refs1 A ∧ H R2 = some (.tup refs2) ∧ Ea H Lead refs2 B ∧ isLn H pc p ∧ Bd A B p ∧
  (fol e A B p c = none → Q .non H) ∧ ∀ t q H', fol e A B p c = some q → Same H H' → isLn H' t q → Q (.ref t) H'
section
variable {P : Program} {w : World} {K : PySem.W.Frag} {mg : Str → Option Value} {base : Heap} {C : Addr}
theorem scFol : FnScope NFol ["first", "second", "pair", "at", "either"] (defScope sFol) := ⟨rfl, rfl, rfl, by decide +kernel, rfl, by decide +kernel, by decide +kernel⟩
theorem ok_fol {f : Addr} {fd : FuncData} (F : Fun K "_following" "_following" sFol f fd) (T : Txt K mg) : FnOk P w K mg base CX0 1 f fd ["first", "second", "pair", "at", "either"] (spFol K) := by
  refine F.ok scFol (fun vs H Q E h => ?_) (fun cdv A0 outer s H vs Q E hr h => ?_)
  · obtain ⟨R1, R2, pc, _, _, _, _, _, c, e, rfl, _⟩ := h
    rfl
  · obtain ⟨R1, R2, pc, refs1, refs2, A, B, p, c, e, rfl, h1, e1, h2, e2, hp, bd, kn, ks⟩ := h
    refine ⟨_, pss_cons (ps_asg (pv 2) (pg_tup rfl (pgs_cons (pg_name (i := 5) scFol.nd rfl (Or.inl rfl)) (pgs_cons (pg_name (i := 6) scFol.nd rfl (Or.inl rfl)) pgs_nil))))
      (pss_cut (ps_set (i := 5) scFol.nd rfl (Or.inl rfl) (pe_ifExp (pt_cmpR op_isN (pv 5) pe_non (nomark _)) pe_non (pe_ix ix_tup (pe_ix ix_tup (pv 0) (pv 5) (fun _ _ => rfl)) (pv 3) (fun _ _ => rfl))))
      (pss_cut (ps_set (i := 6) scFol.nd rfl (Or.inl rfl) (pe_ifExp (pt_cmpR op_isN (pv 6) pe_non (nomark _)) pe_non (pe_ix ix_tup (pe_ix ix_tup (pv 1) (pv 6) (fun _ _ => rfl)) (pv 3) (fun _ _ => rfl))))
      (pss_cut (ps_set (i := 7) scFol.nd rfl (Or.inl rfl) (pe_ifExp (pt_val (pv 4)) (pe_and (pe_cmpR op_isN (pv 5) pe_non (nomark _)) (pe_one (pe_cmpR op_isN (pv 6) pe_non (nomark _)))) (pe_or (pe_cmpR op_isN (pv 5) pe_non (nomark _)) (pe_one (pe_cmpR op_isN (pv 6) pe_non (nomark _))))))
      (pss_one (ps_ret (pe_ifExp (pt_val (pv 7)) pe_non (pe_tup (pa_cons (pv 5) (pa_cons (pv 6) pa_nil))))))))), ?_⟩
    obtain ⟨p1, p2⟩ := p
    have hp : H pc = some (.tup [ev p1, ev p2]) := hp
    refine ⟨_, rfl, pc, _, rfl, SqT.of hp, rfl, _, _, rfl, _, _, rfl, rfl, ?_⟩
    have rd : ∀ {R : Addr} {refs : List V} {A : List Ln} {i : Nat}, H R = some (.tup refs) → Ea H Lead refs A → i < A.length → ∃ r l u, atI refs (i : Int) = some (.ref r) ∧ H r = some (.tup (ev l.1 :: ev l.2 :: u)) ∧ en A i c = JM.sd l c := fun {R refs A i} hR eA hi => by
      obtain ⟨r, hr, u, _, q⟩ := eA.get (List.getElem?_eq_getElem hi)
      refine ⟨r, A[i], u, ?_, q, JM.en_at (List.getElem?_eq_getElem hi)⟩
      unfold atI
      rw [Evl.ixN_nat (List.getElem?_eq_some_iff.mp hr).1]
      exact hr
    refine ⟨fun σ' H' => σ' = [some (.ref R1), some (.ref R2), some (.ref pc), some (bV c), some (.bl e), some (ev (p1.bind fun i => en A i c)), some (ev p2), none] ∧ H = H', ?_, ?_⟩
    · refine ⟨_, rfl, rfl, _, rfl, ?_⟩
      rw [ev_non]
      cases p1 with
      | none => exact iteT ⟨rfl, rfl⟩
      | some i =>
        obtain ⟨r, l, u, g1, g2, g3⟩ := rd h1 e1 (bd.1 i rfl)
        refine iteF ⟨_, rfl, _, rfl, R1, refs1, (i : Int), .ref r, rfl, rfl, SqT.of h1, g1, _, rfl, r, _, _, _, rfl, rfl, SqT.of g2, at_lead c, ?_, rfl⟩
        rw [← g3]
        rfl
    rintro _ _ ⟨rfl, rfl⟩
    refine ⟨fun σ' H' => σ' = [some (.ref R1), some (.ref R2), some (.ref pc), some (bV c), some (.bl e), some (ev (p1.bind fun i => en A i c)), some (ev (p2.bind fun i => en B i c)), none] ∧ H = H', ?_, ?_⟩
    · refine ⟨_, rfl, rfl, _, rfl, ?_⟩
      rw [ev_non]
      cases p2 with
      | none => exact iteT ⟨rfl, rfl⟩
      | some i =>
        obtain ⟨r, l, u, g1, g2, g3⟩ := rd h2 e2 (bd.2 i rfl)
        refine iteF ⟨_, rfl, _, rfl, R2, refs2, (i : Int), .ref r, rfl, rfl, SqT.of h2, g1, _, rfl, r, _, _, _, rfl, rfl, SqT.of g2, at_lead c, ?_, rfl⟩
        rw [← g3]
        rfl
    rintro _ _ ⟨rfl, rfl⟩
    have hf : fol e A B (p1, p2) c = if (if e = true then (p1.bind fun i => en A i c).isNone && (p2.bind fun j => en B j c).isNone else (p1.bind fun i => en A i c).isNone || (p2.bind fun j => en B j c).isNone) = true then none else some (p1.bind fun i => en A i c, p2.bind fun j => en B j c) := rfl
    generalize (p1.bind fun i => en A i c) = one at hf ⊢
    generalize (p2.bind fun i => en B i c) = two at hf ⊢
    refine ⟨fun σ' H' => σ' = [some (.ref R1), some (.ref R2), some (.ref pc), some (bV c), some (.bl e), some (ev one), some (ev two), some (.bl (if e = true then one.isNone && two.isNone else one.isNone || two.isNone))] ∧ H = H', ?_, ?_⟩
    · refine ⟨_, rfl, e, rfl, ?_⟩
      cases e with
      | true =>
        refine iteT ⟨_, rfl, rfl, _, rfl, ?_⟩
        rw [ev_non]
        cases h5 : one.isNone with
        | true =>
          refine iteT ⟨_, rfl, rfl, ?_⟩
          rw [ev_non]
          exact ⟨rfl, rfl⟩
        | false => exact iteF ⟨rfl, rfl⟩
      | false =>
        refine iteF ⟨_, rfl, rfl, _, rfl, ?_⟩
        rw [ev_non]
        cases h5 : one.isNone with
        | true => exact iteT ⟨rfl, rfl⟩
        | false =>
          refine iteF ⟨_, rfl, rfl, ?_⟩
          rw [ev_non]
          exact ⟨rfl, rfl⟩
    rintro _ _ ⟨rfl, rfl⟩
    generalize (if e = true then one.isNone && two.isNone else one.isNone || two.isNone) = b at hf ⊢
    refine ⟨_, rfl, b, rfl, ?_⟩
    cases b with
    | true => exact iteT (kn (by rw [hf]; rfl))
    | false =>
      refine iteF ⟨_, rfl, _, rfl, by show 2 ≤ sizeLine; decide, fun t ht => ?_⟩
      exact ks t (one, two) _ (by rw [hf]; rfl) (new_ ht) upd_same
end
end PA

set_option maxHeartbeats 8000000
namespace PA
open PySem L2 RZ
open C8 (pss_cut tCut)
open JM (fol Bd en LineOk)
open JW (JT JP JC)
open JK (JQ)
abbrev NJoin : List Str := ["first", "second", "either", "pairs", "numbers", "rows", "pair", "following", "after", "at"]
/-- the numbers of the pairs -/
def pn (Pl : List Ln) : List (LKey × V) := Pl.zipIdx.map fun x => (lk x.1, V.int (x.2 : Int))
theorem pn_snoc (Pl : List Ln) (q : Ln) : pn (Pl ++ [q]) = pn Pl ++ [(lk q, .int (Pl.length : Int))] := by
  unfold pn
  rw [List.zipIdx_append, List.map_append]
  simp
theorem pn_keys (Pl : List Ln) : (pn Pl).map (·.1) = Pl.map lk := by
  unfold pn
  rw [List.map_map]
  refine List.ext_getElem? fun i => ?_
  rw [List.getElem?_map, List.getElem?_map, List.getElem?_zipIdx]
  cases Pl[i]? <;> rfl
theorem pn_val : ∀ (Pl : List Ln) {q : Ln}, q ∈ Pl → valV (pn Pl) (lk q) = some (.int (LF.ix Pl q : Int)) := by
  have key : ∀ (Pl : List Ln) (n : Nat) {q : Ln}, q ∈ Pl → valV ((Pl.zipIdx n).map fun x => (lk x.1, V.int (x.2 : Int))) (lk q) = some (.int ((LF.ix Pl q + n : Nat) : Int)) := by
    intro Pl
    induction Pl with
    | nil => intro n q h; cases h
    | cons p Pl ih =>
      intro n q h
      rw [List.zipIdx_cons, List.map_cons]
      by_cases e : p = q
      · subst e
        rw [valV_pos rfl]
        unfold LF.ix
        simp
      · rw [valV_neg (fun z => e (lk_inj z)), ih (n + 1) ((List.mem_cons.mp h).resolve_left fun z => e z.symm)]
        have : LF.ix (p :: Pl) q = LF.ix Pl q + 1 := by
          rw [LF.ix]
          rw [if_neg e]
        rw [this, Nat.add_assoc, Nat.add_comm 1 n]
  intro Pl q h
  exact key Pl 0 h
/-- the pairs that have been found, as they stand -/
structure JS (P : Program) (w : World) (H H' : Hp) (Pa D Rw : Addr) (Pl : List Ln) (prs : List V) (kvs : List DE) (rws : List V) (Rl : List Ln) : Prop where
  sm : Same H H'
  hP : H' Pa = some (.lst prs)
  eP : Ea H' isLn prs Pl
  hD : H' D = some (DX P w D kvs)
  ka : ∀ p ∈ kvs, KeyAt H' p.2.1 p.1
  ev_ : (kvs.map fun p => (p.1, p.2.2)) = pn Pl
  hR : H' Rw = some (.lst rws)
  eR : Ea H' isLn rws Rl
section
variable {P : Program} {w : World} {H H' H2 : Hp} {Pa D Rw : Addr} {Pl : List Ln} {prs : List V} {kvs : List DE} {rws : List V} {Rl : List Ln}
theorem JS.em (I : JS P w H H' Pa D Rw Pl prs kvs rws Rl) : (kvs.map fun p => (p.1, p.2.2)).map (·.1) = Pl.map lk := by rw [I.ev_, pn_keys]
theorem JS.same (I : JS P w H H' Pa D Rw Pl prs kvs rws Rl) (s : Same H' H2) : JS P w H H2 Pa D Rw Pl prs kvs rws Rl :=
  ⟨I.sm.trans s, s _ _ I.hP, I.eP.same s, s _ _ I.hD, fun p hp => (I.ka p hp).kt fun b ys e => s _ _ e, I.ev_, s _ _ I.hR, I.eR.same s⟩
theorem JS.has (I : JS P w H H' Pa D Rw Pl prs kvs rws Rl) (q : Ln) : (valV (kvs.map fun p => (p.1, p.2.2)) (lk q)).isSome = decide (q ∈ Pl) := by
  rw [val_keys, I.em, Bool.eq_iff_iff, decide_eq_true_iff, decide_eq_true_iff]
  refine ⟨fun h => ?_, fun h => List.mem_map.mpr ⟨q, h, rfl⟩⟩
  obtain ⟨p, hp, e⟩ := List.mem_map.mp h
  rw [← lk_inj e]
  exact hp
theorem JS.lenK (I : JS P w H H' Pa D Rw Pl prs kvs rws Rl) : kvs.length = Pl.length := by
  have := congrArg List.length I.em
  rwa [List.length_map, List.length_map, List.length_map] at this
theorem JS.no (I : JS P w H H' Pa D Rw Pl prs kvs rws Rl) {q : Ln} (h : q ∉ Pl) : valV (kvs.map fun p => (p.1, p.2.2)) (lk q) = none := by
  have := I.has q
  rw [decide_eq_false h] at this
  cases hv : valV (kvs.map fun p => (p.1, p.2.2)) (lk q) with
  | none => rfl
  | some v => rw [hv] at this; cases this
theorem JS.tkD (I : JS P w H H' Pa D Rw Pl prs kvs rws Rl) {o : HO} {c : Addr} {ys : List V} (e : H' c = some (.tup ys)) : (upd H' D o) c = some (.tup ys) := by
  rw [upd_ne (ne_of e I.hD (by intro z; cases z))]
  exact e
theorem JS.tkP (I : JS P w H H' Pa D Rw Pl prs kvs rws Rl) {o : HO} {c : Addr} {ys : List V} (e : H' c = some (.tup ys)) : (upd H' Pa o) c = some (.tup ys) := by
  rw [upd_ne (ne_of e I.hP (by intro z; cases z))]
  exact e
theorem JS.tkR (I : JS P w H H' Pa D Rw Pl prs kvs rws Rl) {o : HO} {c : Addr} {ys : List V} (e : H' c = some (.tup ys)) : (upd H' Rw o) c = some (.tup ys) := by
  rw [upd_ne (ne_of e I.hR (by intro z; cases z))]
  exact e
/-- a new pair: numbers[after] = v; pairs.append(after) -/
theorem JS.add (I : JS P w H H' Pa D Rw Pl prs kvs rws Rl) (nP : H Pa = none) (nD : H D = none) (PR : Pa ≠ Rw) {q : Ln} {t : Addr} {v : V} (ht : isLn H' t q) (hv : v = .int (Pl.length : Int)) :
    JS P w H (upd (upd H' D (DX P w D (kvs ++ [(lk q, t, v)]))) Pa (.lst (prs ++ [.ref t]))) Pa D Rw (Pl ++ [q]) (prs ++ [.ref t]) (kvs ++ [(lk q, t, v)]) rws Rl := by
  have PD : Pa ≠ D := ne_of I.hP I.hD (by intro z; cases z)
  have RD : Rw ≠ D := ne_of I.hR I.hD (by intro z; cases z)
  have h1 : (upd H' D (DX P w D (kvs ++ [(lk q, t, v)]))) Pa = some (.lst prs) := by rw [upd_ne PD]; exact I.hP
  have tk : ∀ c ys, H' c = some (.tup ys) → (upd (upd H' D (DX P w D (kvs ++ [(lk q, t, v)]))) Pa (.lst (prs ++ [.ref t]))) c = some (.tup ys) := fun c ys e => by
    rw [upd_ne (ne_of (I.tkD e) h1 (by intro z; cases z))]
    exact I.tkD e
  refine ⟨fun c o e => ?_, upd_same, Ea.push (I.eP.imp fun c r q => tk _ _ q) (tk _ _ ht), ?_, fun p hp => ?_, ?_, ?_, I.eR.imp fun c r q => tk _ _ q⟩
  · rw [upd_ne (ne_of_none e nP), upd_ne (ne_of_none e nD)]
    exact I.sm _ _ e
  · rw [upd_ne PD.symm, upd_same]
  · rcases List.mem_append.mp hp with hp | hp
    · exact (I.ka p hp).kt fun c ys e => tk _ _ e
    · cases List.mem_singleton.mp hp
      exact (isLn.key ht).kt fun c ys e => tk _ _ e
  · rw [List.map_append, I.ev_, pn_snoc, hv]
    rfl
  · rw [upd_ne PR.symm, upd_ne RD]
    exact I.hR
end
theorem JS.row {P : Program} {w : World} {H H' : Hp} {Pa D Rw : Addr} {Pl : List Ln} {prs : List V} {kvs : List DE} {rws : List V} {Rl : List Ln} (I : JS P w H H' Pa D Rw Pl prs kvs rws Rl) (nR : H Rw = none) (PR : Pa ≠ Rw) {t : Addr} {l : Ln} (ht : isLn H' t l) :
    JS P w H (upd H' Rw (.lst (rws ++ [.ref t]))) Pa D Rw Pl prs kvs (rws ++ [.ref t]) (Rl ++ [l]) := by
  refine ⟨fun c o e => ?_, ?_, I.eP.imp fun c r q => I.tkR q, ?_, fun p hp => (I.ka p hp).kt fun c ys e => I.tkR e, I.ev_, upd_same, Ea.push (I.eR.imp fun c r q => I.tkR q) (I.tkR ht)⟩
  · rw [upd_ne (ne_of_none e nR)]
    exact I.sm _ _ e
  · rw [upd_ne PR]
    exact I.hP
  · rw [upd_ne (ne_of I.hR I.hD (by intro z; cases z)).symm]
    exact I.hD
/-- what stands for a following pair -/
def FV (H : Hp) : Option Ln → V → Prop
  | none, v => v = .non
  | some q, v => ∃ t, v = .ref t ∧ isLn H t q
theorem FV.kt {H H' : Hp} : ∀ {o : Option Ln} {v : V}, FV H o v → (∀ c ys, H c = some (.tup ys) → H' c = some (.tup ys)) → FV H' o v
  | none, v, h, _ => h
  | some q, v, ⟨t, e, h⟩, k => ⟨t, e, k _ _ h⟩
theorem take_next' {α : Type} {l : List α} {i : Nat} {x : α} (h : l[i]? = some x) : l.take (i + 1) = l.take i ++ [x] := by
  rw [List.take_add_one, h]
  rfl
def spJoin (K : PySem.W.Frag) : Sp := fun vs H Q _ => ∃ (R1 R2 : Addr) (refs1 refs2 : List V) (A B : List Ln) (e : Bool), vs = [.ref R1, .ref R2, .bl e] ∧ H R1 = some (.tup refs1) ∧ Ea H Lead refs1 A ∧ H R2 = some (.tup refs2) ∧ Ea H Lead refs2 B ∧ LineOk A ∧ LineOk B ∧ A.length ≤ 10 ∧ B.length ≤ 10 ∧
  ∀ (t Pa Rw : Addr) (prs rws : List V) (Pl Rl : List Ln) H', Same H H' → H' t = some (.tup [.ref Pa, .ref Rw]) → H' Pa = some (.lst prs) → Ea H' isLn prs Pl → H' Rw = some (.lst rws) → Ea H' isLn rws Rl → JT e A B Pl Rl → JQ e A B Pl → Pl.length ≤ (A.length + 1) * (B.length + 1) → Q (.ref t) H'
section
variable {P : Program} {w : World} {K : PySem.W.Frag} {mg : Str → Option Value} {base : Heap} {C : Addr}
theorem scJoin : FnScope NJoin ["first", "second", "either"] (defScope sJoin) := ⟨rfl, rfl, rfl, by decide +kernel, rfl, by decide +kernel, by decide +kernel⟩
theorem ok_join {f g : Addr} {fd gd : FuncData} (F : Fun K "joined" "joined" sJoin f fd) (T : Txt K mg) (D1 : Df K mg "_following" sFol g gd ["first", "second", "pair", "at", "either"]) : FnOk P w K mg base CX0 2 f fd ["first", "second", "either"] (spJoin K) := by
  have G : FnOk P w K mg base CX0 1 g gd ["first", "second", "pair", "at", "either"] (spFol K) := ok_fol D1.F T
  refine F.ok scJoin (fun vs H Q E h => ?_) (fun cdv A0 outer s H vs Q E hr h => ?_)
  · obtain ⟨R1, R2, _, _, _, _, _, rfl, _⟩ := h
    rfl
  · obtain ⟨R1, R2, refs1, refs2, A, B, e, rfl, h1, e1, h2, e2, oA, oB, lA, lB, kk⟩ := h
    have hu := u1 hr.units
    refine ⟨_, pss_cons (ps_set (i := 3) scJoin.nd rfl (Or.inl rfl) (pe_lst (pa_cons (pe_tup (pa_cons pe_int (pa_cons pe_int pa_nil))) pa_nil)))
      (pss_cons (ps_set (i := 4) scJoin.nd rfl (Or.inr rfl) (pe_disp1 hu (pe_tup (pa_cons pe_int (pa_cons pe_int pa_nil))) pe_int))
      (pss_cons (ps_set (i := 5) scJoin.nd rfl (Or.inl rfl) (pe_lst pa_nil))
      (pss_cons (ps_while PassesOwn.never (pt_cmpR op_lt (pe_callB call_len_seq (by rfl) T.len_ PySem.boot_len (pa_cons (pv 5) pa_nil)) (pe_callB call_len_seq (by rfl) T.len_ PySem.boot_len (pa_cons (pv 3) pa_nil)) (nomark _))
        (pss_cons (ps_set (i := 6) scJoin.nd rfl (Or.inr rfl) (pe_ix ix_list (pv 3) (pe_callB call_len_seq (by rfl) T.len_ PySem.boot_len (pa_cons (pv 5) pa_nil)) (fun _ _ => rfl)))
        (pss_cons (ps_setLc (i := 7) (own := [("at", 9)]) (g := gName 9) (tt := tYes) (by rfl) scJoin.nd rfl rfl (sw_true rfl rfl rfl (by decide +kernel)) (pi_tup (pe_tup (pa_cons pe_int (pa_cons pe_int pa_nil)))) (blkOk_by (N := NJoin) (sc := defScope sJoin) (by decide +kernel))
          (fun _ _ _ _ _ => pg_name (i := 9) scJoin.nd rfl (Or.inl rfl)) (fun _ _ _ _ _ => pts_nil)
          (fun _ _ _ _ _ => pe_call G hr rfl D1.M D1.F.kp D1.B .nil pass0 (pa_cons (pv 0) (pa_cons (pv 1) (pa_cons (pv 6) (pa_cons (pv 9) (pa_cons (pv 2) pa_nil)))))))
        (pss_cons (ps_for PassesOwn.never rfl (pi_list (pv 7)) (pg_name (i := 8) scJoin.nd rfl (Or.inl rfl))
          (pss_one (ps_if (PW.pt (pw_and (pt_cmpR op_notN (pv 8) pe_non (nomark _)) (pw_and1 (pt_cmpR (op_notIn_dx hu) (pv 8) (pv 4) rfl))))
            (pss_cons (ps_asg (pe_callB call_len_seq (by rfl) T.len_ PySem.boot_len (pa_cons (pv 3) pa_nil)) (pg_sub (pv 4) (pv 8) (set_dx hu)))
            (pss_one (ps_expr (pe_bm PySem.F.plainAttrs_list PySem.F.slot_list_append PySem.F.type_list_append mt_append (pv 3) (pa_cons (pv 8) pa_nil))))) pss_nil)))
        (pss_one (ps_expr (pe_bm PySem.F.plainAttrs_list PySem.F.slot_list_append PySem.F.type_list_append mt_append (pv 5) (pa_cons (pe_callTy call_tuple_of (by rfl) T.tup_ boot_tuple' (pa_cons (pe_lc (own := [("after", 8)]) (g := gName 8) (tt := tYes) (by rfl) scJoin.nd (pi_list (pv 7)) (blkOk_by (N := NJoin) (sc := defScope sJoin) (by decide +kernel))
          (fun _ _ _ _ _ => pg_name (i := 8) scJoin.nd rfl (Or.inl rfl)) (fun _ _ _ _ _ => pts_nil)
          (fun _ _ _ _ _ => pe_dxgetK (P := P) (w := w) rfl rfl hu (pv 4) (pv 8))) pa_nil)) pa_nil))))))))
      (pss_one (ps_ret (pe_tup (pa_cons (pv 3) (pa_cons (pv 5) pa_nil)))))))), ?_⟩
    refine ⟨by show 2 ≤ sizeLine; decide, fun t0 ht0 => ⟨by show 1 ≤ sizeLine; decide, fun Pa hPa => ?_⟩⟩
    have f0 := new_ (o := .tup [V.int 0, .int 0]) ht0
    have g0 : isLn (upd H t0 (.tup [V.int 0, .int 0])) t0 (some 0, some 0) := upd_same
    generalize (upd H t0 (.tup [V.int 0, .int 0])) = Ha at f0 g0 hPa ⊢
    have nP : H Pa = none := Same.none f0 hPa
    have f1 := f0.trans (new_ (o := .lst [.ref t0]) hPa)
    have g1 : isLn (upd Ha Pa (.lst [.ref t0])) t0 (some 0, some 0) := new_ hPa _ _ g0
    have gP : (upd Ha Pa (.lst [.ref t0])) Pa = some (.lst [.ref t0]) := upd_same
    generalize (upd Ha Pa (.lst [.ref t0])) = Hb at f1 g1 gP ⊢
    clear f0 g0 hPa
    intro D hD
    have nD : H D = none := Same.none f1 hD
    refine ⟨by show 2 ≤ sizeLine; decide, fun k0 hk0 => ?_⟩
    have kD : k0 ≠ D := fun z => by rw [z, upd_same] at hk0; cases hk0
    have nk : Hb k0 = none := by rwa [upd_ne kD] at hk0
    have g2 : (upd (upd Hb D (DX P w D [])) k0 (.tup [V.int 0, .int 0])) D = some (DX P w D []) := by rw [upd_ne kD.symm, upd_same]
    have gk : isLn (upd (upd Hb D (DX P w D [])) k0 (.tup [V.int 0, .int 0])) k0 (some 0, some 0) := upd_same
    refine ⟨k0, lk (some 0, some 0), rfl, g2, isLn.key gk, ?_⟩
    refine ⟨Nat.zero_le _, fun Rw hRw => ?_⟩
    have DP : Pa ≠ D := ne_of_none gP hD
    have kP : Pa ≠ k0 := ne_of_none gP nk
    have keep : ∀ c o, Hb c = some o → (upd (upd (upd Hb D (DX P w D [])) k0 (.tup [V.int 0, .int 0])) D (DX P w D [(lk (some 0, some 0), k0, .int 0)])) c = some o := fun c o e => by
      rw [upd_ne (ne_of_none e hD), upd_ne (ne_of_none e nk), upd_ne (ne_of_none e hD)]
      exact e
    have eR := new_ (o := .lst []) hRw
    have nR : H Rw = none := Same.none f1 (Same.none keep hRw)
    have PR : Pa ≠ Rw := ne_of_none (keep _ _ gP) hRw
    have gkk : isLn (upd (upd (upd Hb D (DX P w D [])) k0 (.tup [V.int 0, .int 0])) D (DX P w D [(lk (some 0, some 0), k0, .int 0)])) k0 (some 0, some 0) := by
      show _ = _
      rw [upd_ne kD]
      exact gk
    have I0 : JS P w H (upd (upd (upd (upd Hb D (DX P w D [])) k0 (.tup [V.int 0, .int 0])) D (DX P w D [(lk (some 0, some 0), k0, .int 0)])) Rw (.lst [])) Pa D Rw [(some 0, some 0)] [.ref t0] [(lk (some 0, some 0), k0, .int 0)] [] [] := by
      refine ⟨fun c o e => eR _ _ (keep _ _ (f1 _ _ e)), eR _ _ (keep _ _ gP), Ea.one (eR _ _ (keep _ _ g1)), eR _ _ upd_same, fun p hp => ?_, rfl, upd_same, Ea.nil⟩
      rw [List.mem_singleton.mp hp]
      exact isLn.key (eR _ _ gkk)
    refine ⟨fun m σ' H' => ∃ (Pl : List Ln) (prs : List V) (kvs : List DE) (rws : List V) (Rl : List Ln) (x6 x7 x8 : Option V), σ' = [some (.ref R1), some (.ref R2), some (.bl e), some (.ref Pa), some (.ref D), some (.ref Rw), x6, x7, x8, none] ∧ JS P w H H' Pa D Rw Pl prs kvs rws Rl ∧ JQ e A B Pl ∧ JC e A B Pl Rl ∧ rws.length ≤ Pl.length ∧ rws.length + m = 122, ⟨122, _, _, _, _, _, none, none, none, rfl, I0, .init oA oB, fun k p c hk => absurd hk (Nat.not_lt_zero _), Nat.zero_le _, rfl⟩, ?_⟩
    clear I0 gkk g2 gk keep eR hRw hD hk0 gP g1
    rintro m _ H3 ⟨Pl, prs, kvs, rws, Rl, x6, x7, x8, rfl, I, b, cl, hd, hm⟩
    have few := b.few
    have fAB : (A.length + 1) * (B.length + 1) ≤ 11 * 11 := Nat.mul_le_mul (by omega) (by omega)
    have lpr : prs.length = Pl.length := I.eP.1
    refine ⟨_, rfl, Rw, _, rfl, .inl (SqL.of I.hR), _, rfl, Pa, _, rfl, .inl (SqL.of I.hP), _, _, rfl, rfl, _, rfl, ifD_2 (fun hlt => ?_) (fun hge => ?_)⟩
    rotate_left
    · have hend : rws.length = Pl.length := by omega
      refine ⟨_, rfl, _, rfl, by show 2 ≤ sizeLine; decide, fun t ht => ?_⟩
      have en' := new_ (o := .tup [.ref Pa, .ref Rw]) ht
      have lRl : rws.length = Rl.length := I.eR.1
      exact kk t Pa Rw prs rws Pl Rl _ (I.sm.trans en') upd_same (en' _ _ I.hP) (I.eP.same en') (en' _ _ I.hR) (I.eR.same en') (cl.done b.toJP (by omega)) b few
    have hlt' : rws.length < Pl.length := by omega
    refine ⟨fun σ' H' => ∃ m', m' < m ∧ ∃ (Pl : List Ln) (prs : List V) (kvs : List DE) (rws : List V) (Rl : List Ln) (x6 x7 x8 : Option V), σ' = [some (.ref R1), some (.ref R2), some (.bl e), some (.ref Pa), some (.ref D), some (.ref Rw), x6, x7, x8, none] ∧ JS P w H H' Pa D Rw Pl prs kvs rws Rl ∧ JQ e A B Pl ∧ JC e A B Pl Rl ∧ rws.length ≤ Pl.length ∧ rws.length + m' = 122, fun _ _ h => h, ?_⟩
    have hpl : Pl[rws.length]? = some Pl[rws.length] := List.getElem?_eq_getElem hlt'
    have hpm : Pl[rws.length] ∈ Pl := List.getElem_mem hlt'
    generalize Pl[rws.length] = p at hpl hpm
    obtain ⟨c, hc, hcl⟩ := I.eP.get hpl
    have hat : atI prs (((rws.length : Nat) : Int)) = some (.ref c) := by
      unfold atI
      rw [Evl.ixN_nat (List.getElem?_eq_some_iff.mp hc).1]
      exact hc
    refine ⟨_, rfl, _, rfl, Rw, _, rfl, .inl (SqL.of I.hR), Pa, prs, ((rws.length : Nat) : Int), .ref c, rfl, rfl, SqL.of I.hP, hat, ?_⟩
    refine ⟨by show 2 ≤ sizeLine; decide, fun tp htp => ⟨tp, rfl, ⟨_, SqT.of upd_same⟩, fun F hF => ?_⟩⟩
    have etp := new_ (o := .tup [V.int 0, .int 1]) htp
    have gtp : (upd H3 tp (.tup [V.int 0, .int 1])) tp = some (.tup [V.int 0, .int 1]) := upd_same
    have I4 := I.same etp
    have hcl4 : isLn (upd H3 tp (.tup [V.int 0, .int 1])) c p := etp _ _ hcl
    clear I hcl htp
    generalize (upd H3 tp (.tup [V.int 0, .int 1])) = H4 at etp gtp I4 hcl4 hF ⊢
    have eF := new_ (o := .lst []) hF
    have FP : Pa ≠ F := ne_of_none I4.hP hF
    have FR : Rw ≠ F := ne_of_none I4.hR hF
    have nF : H F = none := Same.none I4.sm hF
    refine lc_tup (K := K) (a := tp) (xs := [V.int 0, .int 1]) (fun i H' => Same H4 H' ∧ ∃ acc, H' F = some (.lst acc) ∧ acc.length = i ∧ ∀ (k : Nat) (v : V) (o : Option Ln), acc[k]? = some v → [fol e A B p false, fol e A B p true][k]? = some o → FV H' o v) ?_ ?_ ?_ ?_
    · exact ⟨eF, [], upd_same, rfl, fun k v o h => by simp at h⟩
    · rintro i H' _ ⟨s', _⟩
      exact SqT.of (s' _ _ gtp)
    · rintro i x H5 hx ⟨s5, acc, hd5, hl5, hv5⟩
      have hi : i < 2 := (List.getElem?_eq_some_iff.mp hx).1
      obtain ⟨b0, rfl, hfo⟩ : ∃ b0, x = bV b0 ∧ [fol e A B p false, fol e A B p true][i]? = some (fol e A B p b0) := by
        match i, hx with
        | 0, hx => cases hx; exact ⟨false, rfl, rfl⟩
        | 1, hx => cases hx; exact ⟨true, rfl, rfl⟩
        | (i + 2), hx => simp at hx
      have I5 := I4.same s5
      have done : ∀ (v : V) (H6 : Hp), Same H5 H6 → FV H6 (fol e A B p b0) v → ∃ acc', H6 F = some (.lst acc') ∧ acc'.length < sizeLine ∧ (Same H4 (upd H6 F (.lst (acc' ++ [v]))) ∧ ∃ acc, (upd H6 F (.lst (acc' ++ [v]))) F = some (.lst acc) ∧ acc.length = i + 1 ∧ ∀ (k : Nat) (u : V) (o : Option Ln), acc[k]? = some u → [fol e A B p false, fol e A B p true][k]? = some o → FV (upd H6 F (.lst (acc' ++ [v]))) o u) := by
        intro v H6 s6 hv
        have hd6 := s6 _ _ hd5
        have tk : ∀ c ys, H6 c = some (.tup ys) → (upd H6 F (.lst (acc ++ [v]))) c = some (.tup ys) := fun c ys e => by
          rw [upd_ne (ne_of e hd6 (by intro z; cases z))]
          exact e
        refine ⟨acc, hd6, Nat.lt_of_lt_of_le (by omega : acc.length < 16) (by decide), fun c o e => ?_, acc ++ [v], upd_same, by rw [List.length_append, hl5]; rfl, fun k v' o g1 g2 => ?_⟩
        · rw [upd_ne (ne_of_none e hF)]
          exact s6 _ _ (s5 _ _ e)
        · by_cases hk : k < acc.length
          · rw [List.getElem?_append_left hk] at g1
            exact ((hv5 k v' o g1 g2).kt fun c ys e => s6 _ _ e).kt tk
          · have hk' : k = i := by
              have := (List.getElem?_eq_some_iff.mp g1).1
              rw [List.length_append] at this
              have e1 : ([v] : List V).length = 1 := rfl
              omega
            subst hk'
            rw [List.getElem?_append_right (by omega), hl5, Nat.sub_self] at g1
            have ev' : v' = v := by cases g1; rfl
            rw [hfo] at g2
            cases g2
            rw [ev']
            exact hv.kt tk
      refine ⟨rfl, ?_⟩
      dsimp only [tYes]
      rw [if_pos rfl]
      exact ⟨_, rfl, _, rfl, _, rfl, _, rfl, _, rfl, R1, R2, c, refs1, refs2, A, B, p, b0, e, rfl, I5.sm _ _ h1, Ea.lsame e1 I5.sm, I5.sm _ _ h2, Ea.lsame e2 I5.sm, s5 _ _ hcl4, b.bd p hpm, fun hn => done .non H5 (fun _ _ h => h) (by rw [hn]; rfl), fun t q H6 hq s6 ht => done (.ref t) H6 s6 (by rw [hq]; exact ⟨t, rfl, ht⟩)⟩
    rintro H5 ⟨s5, acc, hF5, hl5, hv5⟩
    obtain ⟨v0, v1, rfl⟩ : ∃ v0 v1, acc = [v0, v1] := by
      match acc, hl5 with
      | [a, b], _ => exact ⟨a, b, rfl⟩
    have w0 : FV H5 (fol e A B p false) v0 := hv5 0 v0 _ rfl rfl
    have w1 : FV H5 (fol e A B p true) v1 := hv5 1 v1 _ rfl rfl
    have I5 := I4.same s5
    clear hv5 hl5 I4 s5 eF hF gtp etp hcl4
    refine ⟨_, rfl, F, rfl, ⟨_, SqL.of hF5⟩, ?_⟩
    refine for_list (xs := [v0, v1]) (fun i σ' H' => ∃ (X : List Ln) (prs : List V) (kvs : List DE) (x8 : Option V), σ' = [some (.ref R1), some (.ref R2), some (.bl e), some (.ref Pa), some (.ref D), some (.ref Rw), some (.ref c), some (.ref F), x8, none] ∧ JS P w H H' Pa D Rw (Pl ++ X) prs kvs rws Rl ∧ JQ e A B (Pl ++ X) ∧ H' F = some (.lst [v0, v1]) ∧ FV H' (fol e A B p false) v0 ∧ FV H' (fol e A B p true) v1 ∧
      (1 ≤ i → ∀ q, fol e A B p false = some q → q ∈ Pl ++ X) ∧ (2 ≤ i → ∀ q, fol e A B p true = some q → q ∈ Pl ++ X)) ?_ ?_ ?_ ?_
    · exact ⟨[], prs, kvs, _, rfl, by rw [List.append_nil]; exact I5, by rw [List.append_nil]; exact b, hF5, w0, w1, fun z => absurd z (by decide), fun z => absurd z (by decide)⟩
    · rintro i σ' H' _ ⟨_, _, _, _, _, _, _, hF', _⟩
      exact SqL.of hF'
    · rintro i x _ H6 hx ⟨X, prs, kvs, x8, rfl, I6, b6, hF6, w0, w1, o0, o1⟩
      obtain ⟨bi, wi, hcase⟩ : ∃ bi, FV H6 (fol e A B p bi) x ∧ ((i = 0 ∧ bi = false) ∨ (i = 1 ∧ bi = true)) := by
        match i, hx with
        | 0, hx => cases hx; exact ⟨false, w0, .inl ⟨rfl, rfl⟩⟩
        | 1, hx => cases hx; exact ⟨true, w1, .inr ⟨rfl, rfl⟩⟩
        | (i + 2), hx => simp at hx
      have close : ∀ (X' : List Ln), (∀ r, r ∈ Pl ++ X → r ∈ Pl ++ X') → (∀ q, fol e A B p bi = some q → q ∈ Pl ++ X') → (1 ≤ i + 1 → ∀ q, fol e A B p false = some q → q ∈ Pl ++ X') ∧ (2 ≤ i + 1 → ∀ q, fol e A B p true = some q → q ∈ Pl ++ X') := by
        intro X' mono hq
        rcases hcase with ⟨rfl, rfl⟩ | ⟨rfl, rfl⟩
        · exact ⟨fun _ => hq, fun z => absurd z (by decide)⟩
        · exact ⟨fun _ q e => mono q (o0 (by decide) q e), fun _ => hq⟩
      clear hcase
      have few6 := b6.few
      have lpr6 : prs.length = (Pl ++ X).length := I6.eP.1
      cases ho : fol e A B p bi with
      | none =>
        rw [ho] at wi
        have wi : x = .non := wi
        subst wi
        refine ⟨_, rfl, rfl, _, rfl, ?_⟩
        rw [decide_eq_true rfl]
        exact iteF ⟨X, prs, kvs, _, rfl, I6, b6, hF6, w0, w1, close X (fun r h => h) (fun q e => by rw [ho] at e; cases e)⟩
      | some q =>
        rw [ho] at wi
        obtain ⟨t, rfl, ht⟩ := wi
        refine ⟨_, rfl, rfl, _, rfl, ?_⟩
        rw [decide_eq_false (by intro z; cases z)]
        refine iteT ⟨_, rfl, _, rfl, D, t, _, lk q, rfl, rfl, ⟨kvs, I6.hD, rfl, I6.ka⟩, isLn.key ht, _, rfl, ?_⟩
        rw [I6.has]
        by_cases hin : q ∈ Pl ++ X
        · rw [decide_eq_true hin]
          exact iteF ⟨X, prs, kvs, _, rfl, I6, b6, hF6, w0, w1, close X (fun r h => h) (fun q' e => by rw [ho] at e; cases e; exact hin)⟩
        rw [decide_eq_false hin]
        have hlen : (Pl ++ X).length ≤ 121 := Nat.le_trans few6 fAB
        refine iteT ⟨_, rfl, Pa, _, rfl, .inl (SqL.of I6.hP), _, rfl, _, rfl, D, t, kvs, lk q, rfl, rfl, I6.hD, I6.ka, isLn.key ht, I6.no hin, ?_, ?_⟩
        · rw [I6.lenK]
          exact Nat.lt_of_le_of_lt hlen (by decide)
        have hP7 : (upd H6 D (DX P w D (kvs ++ [(lk q, t, V.int ((prs.length : Nat) : Int))]))) Pa = some (.lst prs) := by
          rw [upd_ne DP]
          exact I6.hP
        refine ⟨_, rfl, .inl ⟨rfl, _, SqL.of hP7⟩, _, rfl, Pa, _, _, rfl, rfl, hP7, ?_, ?_⟩
        · rw [lpr6]
          exact Nat.lt_of_le_of_lt hlen (by decide)
        have I7 := I6.add nP nD PR (v := V.int ((prs.length : Nat) : Int)) ht (by rw [lpr6])
        have FD : F ≠ D := ne_of hF6 I6.hD (by intro z; cases z)
        have tk : ∀ b ys, H6 b = some (.tup ys) → (upd (upd H6 D (DX P w D (kvs ++ [(lk q, t, V.int ((prs.length : Nat) : Int))]))) Pa (.lst (prs ++ [.ref t]))) b = some (.tup ys) := fun b ys e => by
          rw [upd_ne (ne_of (I6.tkD e) hP7 (by intro z; cases z))]
          exact I6.tkD e
        refine ⟨X ++ [q], _, _, _, rfl, by rw [← List.append_assoc]; exact I7, by rw [← List.append_assoc]; exact b6.add oA oB ho hin, ?_, w0.kt tk, w1.kt tk, close (X ++ [q]) (fun r h => ?_) (fun q' e => ?_)⟩
        · rw [upd_ne FP.symm, upd_ne FD]
          exact hF6
        · rw [← List.append_assoc]
          exact List.mem_append.mpr (.inl h)
        · rw [ho] at e
          cases e
          rw [← List.append_assoc]
          exact List.mem_append.mpr (.inr (List.mem_singleton.mpr rfl))
    rintro σ' H6 ⟨X, prs, kvs, x8, rfl, I6, b6, hF6, w0, w1, o0, o1⟩
    have o0 := o0 (by show 1 ≤ 2; decide)
    have o1 := o1 (by show 2 ≤ 2; decide)
    have few6 := Nat.le_trans b6.few fAB
    refine ⟨_, rfl, .inl ⟨rfl, _, SqL.of I6.hR⟩, ?_⟩
    refine ⟨_, rfl, F, rfl, ⟨_, SqL.of hF6⟩, fun L hL => ?_⟩
    have eL := new_ (o := .lst []) hL
    have hrow : ∀ (cc : Bool) (v : V) (H7 : Hp), FV H7 (fol e A B p cc) v → ∃ o : Option Ln, FV H7 o v ∧ fol e A B p cc = o := fun cc v H7 h => ⟨_, h, rfl⟩
    have hmem : ∀ cc q, fol e A B p cc = some q → q ∈ Pl ++ X := fun cc q h => by
      cases cc with
      | false => exact o0 q h
      | true => exact o1 q h
    refine lc_list (K := K) (a := F) (xs := [v0, v1]) (fun i H' => Same H6 H' ∧ H' L = some (.lst ([ev ((fol e A B p false).map (LF.ix (Pl ++ X))), ev ((fol e A B p true).map (LF.ix (Pl ++ X)))].take i))) ?_ ?_ ?_ ?_
    · exact ⟨eL, upd_same⟩
    · rintro i H' _ ⟨s', _⟩
      exact SqL.of (s' _ _ hF6)
    · rintro i x H7 hx ⟨s7, hL7⟩
      have hi : i < 2 := (List.getElem?_eq_some_iff.mp hx).1
      have I7 := I6.same s7
      obtain ⟨cc, hfv, hcc⟩ : ∃ cc, FV H7 (fol e A B p cc) x ∧ [ev ((fol e A B p false).map (LF.ix (Pl ++ X))), ev ((fol e A B p true).map (LF.ix (Pl ++ X)))][i]? = some (ev ((fol e A B p cc).map (LF.ix (Pl ++ X)))) := by
        match i, hx with
        | 0, hx => cases hx; exact ⟨false, w0.kt fun c ys e => s7 _ _ e, rfl⟩
        | 1, hx => cases hx; exact ⟨true, w1.kt fun c ys e => s7 _ _ e, rfl⟩
        | (i + 2), hx => simp at hx
      generalize hes : [ev ((fol e A B p false).map (LF.ix (Pl ++ X))), ev ((fol e A B p true).map (LF.ix (Pl ++ X)))] = es at hL7 hcc
      have hel : es.length = 2 := by rw [← hes]; rfl
      have done : ∃ acc, H7 L = some (.lst acc) ∧ acc.length < sizeLine ∧ (Same H6 (upd H7 L (.lst (acc ++ [ev ((fol e A B p cc).map (LF.ix (Pl ++ X)))]))) ∧ (upd H7 L (.lst (acc ++ [ev ((fol e A B p cc).map (LF.ix (Pl ++ X)))]))) L = some (.lst (es.take (i + 1)))) := by
        refine ⟨_, hL7, Nat.lt_of_lt_of_le (by rw [List.length_take]; omega : (es.take i).length < 16) (by decide), fun c o e => ?_, ?_⟩
        · rw [upd_ne (ne_of_none e hL)]
          exact s7 _ _ e
        · rw [upd_same, take_next' hcc]
      refine ⟨rfl, ?_⟩
      dsimp only [tYes]
      rw [if_pos rfl]
      refine ⟨_, rfl, D, rfl, ⟨_, I7.hD⟩, _, rfl, _, ⟨kvs, I7.hD, rfl, I7.ka⟩, ?_⟩
      cases ho : fol e A B p cc with
      | none =>
        rw [ho] at hfv done
        have hfv : x = .non := hfv
        subst hfv
        exact .inr ⟨rfl, no_non (n := 10) (by decide) (fun p hp => ⟨fun a h => Nat.lt_of_lt_of_le ((b6.bd p hp).1 a h) lA, fun a h => Nat.lt_of_lt_of_le ((b6.bd p hp).2 a h) lB⟩) I7.em, done⟩
      | some q =>
        rw [ho] at hfv done
        obtain ⟨t, rfl, ht⟩ := hfv
        refine .inl ⟨t, lk q, rfl, isLn.key ht, ?_⟩
        rw [I7.ev_, pn_val _ (hmem cc q ho)]
        exact done
    rintro H7 ⟨s7, hL7⟩
    refine ⟨L, _, rfl, .inl ⟨SqL.of hL7, fun tt htt => ?_⟩⟩
    have stt := new_ (o := .tup ([ev ((fol e A B p false).map (LF.ix (Pl ++ X))), ev ((fol e A B p true).map (LF.ix (Pl ++ X)))].take 2)) htt
    have I8 := (I6.same s7).same stt
    have htt8 : isLn (upd H7 tt (.tup ([ev ((fol e A B p false).map (LF.ix (Pl ++ X))), ev ((fol e A B p true).map (LF.ix (Pl ++ X)))].take 2))) tt ((fol e A B p false).map (LF.ix (Pl ++ X)), (fol e A B p true).map (LF.ix (Pl ++ X))) := upd_same
    refine ⟨Rw, _, _, rfl, rfl, I8.hR, Nat.lt_of_lt_of_le (by omega : rws.length < 122) (by decide), ?_⟩
    have lX : (Pl ++ X).length = Pl.length + X.length := List.length_append
    have lr1 : (rws ++ [V.ref tt]).length = rws.length + 1 := List.length_append
    have lRl : rws.length = Rl.length := I6.eR.1
    refine ⟨m - 1, by omega, Pl ++ X, prs, kvs, rws ++ [.ref tt], _, _, _, _, rfl, I8.row nR PR htt8, b6, (cl.more X (by omega)).row ?_ hmem, by omega, by omega⟩
    rw [← lRl, List.getElem?_append_left hlt', hpl]
end
end PA

set_option maxHeartbeats 8000000
namespace PA
open PySem L2 RZ
open C8 (pss_cut tCut)
open JK (num num_at lnC)
abbrev sNum : Stmt := top 31
/-- a claim's rows, of any number -/
structure OkC (A : List Cr) : Prop where
  one : 1 ≤ A.length
  ok : ∀ r ∈ A, COk A.length r
theorem GoodC.okC {A : List Cr} (g : GoodC A) : OkC A := ⟨g.one, g.ok⟩
theorem OkC.lineOk {A : List Cr} (g : OkC A) : JM.LineOk (A.map lnC) := by
  refine ⟨by rw [List.length_map]; exact g.one, fun l hl c a h => ?_⟩
  rw [List.length_map]
  obtain ⟨r, hr, rfl⟩ := List.mem_map.mp hl
  have := g.ok r hr
  cases c with
  | false => cases h; exact this.1
  | true => cases h; exact this.2.1
theorem OkC.full {A : List Cr} (g : OkC A) : JK.Full (A.map lnC).length (A.map lnC) := by
  intro l hl
  rw [List.length_map]
  obtain ⟨r, hr, rfl⟩ := List.mem_map.mp hl
  have := g.ok r hr
  exact ⟨r.1, r.2.1, rfl, this.1, this.2.1⟩
theorem OkC.num_lt {A : List Cr} (g : OkC A) {i : Nat} (h : i < A.length) : num A i < 4 := by
  rw [num_at (List.getElem?_eq_getElem h)]
  exact (g.ok _ (List.getElem_mem h)).2.2
/-- the text at a state -/
theorem rd_num {K : PySem.W.Frag} {H : Hp} {refs : List V} {A : List Cr} (hE : Ea H isCr refs A) {i : Nat} (h : i < A.length) : ∃ c, atI refs (i : Int) = some (.ref c) ∧ H c = some (.tup (cv A[i])) ∧ (cv A[i])[2]? = some (.str (vt (num A i))) := by
  obtain ⟨c, hc, q⟩ := hE.get (List.getElem?_eq_getElem h)
  refine ⟨c, atI_nat hc, q, ?_⟩
  rw [num_at (List.getElem?_eq_getElem h)]
  rfl
def spNum : Sp := fun vs H Q _ => ∃ (R : Addr) (refs : List V) (A : List Cr) (i : Nat), vs = [.ref R, .int (i : Int)] ∧ H R = some (.tup refs) ∧ Ea H isCr refs A ∧ OkC A ∧ i < A.length ∧ Q (.int (num A i : Int)) H
section
variable {P : Program} {w : World} {K : PySem.W.Frag} {mg : Str → Option Value} {base : Heap} {C Fo : Addr}
theorem scNum : FnScope ["rows", "state"] ["rows", "state"] (defScope sNum) := ⟨rfl, rfl, rfl, by decide +kernel, rfl, by decide +kernel, by decide +kernel⟩
theorem ok_num {f : Addr} {fd : FuncData} (F : Fun K "_number" "_number" sNum f fd) (TV : TxtV K mg) : FnOk P w K mg base CX0 1 f fd ["rows", "state"] spNum := by
  obtain ⟨DV, o, hDV, ho, hc, hd, hV⟩ := TV.V_
  refine F.ok scNum (fun vs H Q E h => ?_) (fun cdv A0 outer s H vs Q E hr h => ?_)
  · obtain ⟨R, _, _, i, rfl, _⟩ := h
    rfl
  · obtain ⟨R, refs, A, i, rfl, hR, hE, gd, hi, kk⟩ := h
    refine ⟨_, pss_one (ps_ret (pe_bm PySem.F.plainAttrs_tuple PySem.F.slot_tuple_index PySem.F.type_tuple_index mt_tup_index (pe_glob (v := .ref DV) rfl hDV rfl) (pa_cons (pe_ix ix_tup (pe_ix ix_tup (pv 0) (pv 1) (fun _ _ => rfl)) pe_int (fun _ _ => rfl)) pa_nil))), ?_⟩
    obtain ⟨c, h1, h2, h3⟩ := rd_num (K := K) hE hi
    have h4 := gd.num_lt hi
    refine ⟨.inr (.inl ⟨rfl, o, ho, hc, hd⟩), _, rfl, _, rfl, R, refs, _, _, rfl, rfl, SqT.of hR, h1, c, _, 2, _, rfl, rfl, SqT.of h2, atI_nat (i := 2) h3, DV, VW, vt (num A i), num A i, rfl, rfl, hV H, vw_at h4, fun m hm e => ?_, kk⟩
    rw [vw_at (by omega)] at e
    have := vt_inj (by omega) h4 (Option.some.inj e)
    omega
end
end PA

set_option maxHeartbeats 8000000
namespace PA
open PySem L2 RZ
open C8 (pss_cut tCut)
open JK (tblN leastC NOk tbN crOf tblN_at tblN_ok tblN_len st0)
abbrev sLR : Stmt := top 32
abbrev NLR : List Str := ["rows", "numbers", "table", "least", "_", "row", "number", "same", "other"]
theorem Lead.at2 {H : Hp} {c : Addr} {a b : Nat} (h : Lead H c (some a, some b)) : ∃ u, H c = some (.tup (V.int (a : Int) :: V.int (b : Int) :: u)) := by
  obtain ⟨u, _, q⟩ := h
  exact ⟨u, q⟩
def spLR (K : PySem.W.Frag) : Sp := fun vs H Q _ => ∃ (R N : Addr) (k : L2.Kind) (refs : List V) (ps : List Ln) (ns : List Nat), vs = [.ref R, .ref N] ∧ Sk K k H R refs ∧ Ea H Lead refs ps ∧ H N = some (.lst (natsV ns)) ∧ NOk ps ns ∧ ps.length ≤ 1000 ∧
  ∀ p refs' H', Same H H' → H p = none → H' p = some (.lst refs') → Ea H' isCr refs' (leastC ps ns) → Q (.ref p) H'
section
variable {P : Program} {w : World} {K : PySem.W.Frag} {mg : Str → Option Value} {base : Heap} {C f1 f2 f3 f4 f5 f6 f7 : Addr} {d1 d2 d3 d4 d5 d6 d7 : FuncData}
theorem scLR : FnScope NLR ["rows", "numbers"] (defScope sLR) := ⟨rfl, rfl, rfl, by decide +kernel, rfl, by decide +kernel, by decide +kernel⟩
theorem ok_lr {f : Addr} {fd : FuncData} (F : Fun K "_least_rows" "_least_rows" sLR f fd) (T : Txt K mg) (TV : TxtV K mg) (L : LibF K mg f1 f2 f3 f4 f5 f6 f7 d1 d2 d3 d4 d5 d6 d7) : FnOk P w K mg base CX0 5 f fd ["rows", "numbers"] (spLR K) := by
  have G : FnOk P w K mg base CX0 4 f1 d1 ["rows", "starts"] (spLeastF K) := ok_leastF T L
  obtain ⟨DV, o, hDV, ho, hcl, hdi, hV⟩ := TV.V_
  refine F.ok scLR (fun vs H Q E h => ?_) (fun cdv A0 outer s H vs Q E hr h => ?_)
  · obtain ⟨R, N, _, _, _, _, rfl, _⟩ := h
    rfl
  · obtain ⟨R, N, k, refs, ps, ns, rfl, hR, hE, hN, nok, l1000, kk⟩ := h
    refine ⟨_, pss_cons (ps_setLc (i := 2) (own := [("row", 5), ("number", 6)]) (g := gTup K 2 (gCons (gName 5) (gCons (gName 6) gNil))) (tt := tYes) (by rfl) scLR.nd rfl rfl (sw_true rfl rfl rfl (by decide +kernel)) (pi_zipM (by rfl) T.zip_ (pa_cons (pv 0) (pa_cons (pv 1) pa_nil))) (blkOk_by (N := NLR) (sc := defScope sLR) (by decide +kernel))
          (fun _ _ _ _ _ => pg_tup rfl (pgs_cons (pg_name (i := 5) scLR.nd rfl (Or.inl rfl)) (pgs_cons (pg_name (i := 6) scLR.nd rfl (Or.inl rfl)) pgs_nil))) (fun _ _ _ _ _ => pts_nil)
          (fun _ _ _ _ _ => pe_tup (pa_cons (pe_ix (ix_tupK (K := K) rfl) (pv 5) pe_int (fun _ _ => rfl)) (pa_cons (pv 6) (pa_cons (pe_ix (ix_tupK (K := K) rfl) (pv 5) pe_int (fun _ _ => rfl)) (pa_cons (pv 6) pa_nil))))))
      (pss_cons (ps_asg (pe_call G hr rfl L.F1.M L.F1.F.kp L.F1.B .nil pass0 (pa_cons (pv 2) (pa_cons (pe_lst (pa_cons pe_int pa_nil)) pa_nil))) (pg_tup rfl (pgs_cons (pg_name (i := 3) scLR.nd rfl (Or.inl rfl)) (pgs_cons (pg_name (i := 4) scLR.nd rfl (Or.inl rfl)) pgs_nil))))
      (pss_one (ps_ret (pe_lc (own := [("same", 7), ("number", 6), ("other", 8), ("_", 4)]) (g := gTup K 4 (gCons (gName 7) (gCons (gName 6) (gCons (gName 8) (gCons (gName 4) gNil))))) (tt := tYes) (by rfl) scLR.nd (pi_tup (pv 3)) (blkOk_by (N := NLR) (sc := defScope sLR) (by decide +kernel))
          (fun _ _ _ _ _ => pg_tup rfl (pgs_cons (pg_name (i := 7) scLR.nd rfl (Or.inl rfl)) (pgs_cons (pg_name (i := 6) scLR.nd rfl (Or.inl rfl)) (pgs_cons (pg_name (i := 8) scLR.nd rfl (Or.inl rfl)) (pgs_cons (pg_name (i := 4) scLR.nd rfl (Or.inl rfl)) pgs_nil))))) (fun _ _ _ _ _ => pts_nil)
          (fun _ _ _ _ _ => pe_tup (pa_cons (pv 7) (pa_cons (pv 8) (pa_cons (pe_ix (ix_tupK (K := K) rfl) (pe_glob (v := .ref DV) rfl hDV rfl) (pv 6) (fun _ _ => rfl)) pa_nil)))))))), ?_⟩
    have hlr : refs.length = ps.length := hE.1
    have hln := nok.len
    have hnv : (natsV ns).length = ns.length := by unfold natsV; exact List.length_map _
    refine ⟨_, rfl, _, rfl, k, .l, R, N, refs, natsV ns, rfl, hR, SqL.of hN, fun Dd hD => ?_⟩
    refine lc_accP (walk_m (K := K) (k1 := k) (k2 := .l) (a := R) (b := N) (xs := refs) (ys := natsV ns) (n := ps.length) (by omega)) (Nat.le_trans l1000 (by decide)) hD (fun H' s' => ⟨hR.up s', SqL.of (s' _ _ hN)⟩) (fun i acc H' => Ea H' isR acc ((tblN ps ns).take i)) (fun i acc H' e => by rw [e.1, List.length_take]; omega) (by rw [List.take_zero]; exact Ea.nil) (fun i x y t H' acc Φ Ψ hi hx hy sm hd he ht kf => ?_) fun H1 acc s1 hd he => ?_
    · obtain ⟨a, b, n, g1, g2, g3, _⟩ := tblN_at nok hi
      obtain ⟨c, hc, q⟩ := hE.get g1
      rw [hx] at hc
      cases hc
      have ey : y = V.int (n : Int) := by
        unfold natsV at hy
        rw [List.getElem?_map, g2] at hy
        cases hy
        rfl
      subst ey
      obtain ⟨u, q⟩ := q.at2
      have st := new_ (o := .tup [V.ref c, V.int (n : Int)]) ht
      have hc' : (upd H' t (.tup [V.ref c, V.int (n : Int)])) c = some (.tup (V.int (a : Int) :: V.int (b : Int) :: u)) := st _ _ (sm _ _ q)
      refine ⟨t, _, rfl, SqT.of upd_same, rfl, _, _, rfl, _, _, rfl, rfl, rfl, ?_⟩
      dsimp only [tYes]
      rw [if_pos rfl]
      refine ⟨_, rfl, c, _, 0, V.int (a : Int), rfl, rfl, SqT.of hc', atI_nat (i := 0) rfl, _, rfl, _, rfl, c, _, 1, V.int (b : Int), rfl, rfl, SqT.of hc', atI_nat (i := 1) rfl, _, rfl, by show 4 ≤ sizeLine; decide, fun u2 hu2 => ?_⟩
      have su := new_ (o := .tup [V.int (a : Int), V.int (n : Int), V.int (b : Int), V.int (n : Int)]) hu2
      refine kf _ _ su fun H5 b5 => ?_
      rw [L2.take_succ' g3]
      have hdd : ∀ b' ys, (upd (upd H' t (.tup [V.ref c, V.int (n : Int)])) u2 (.tup [V.int (a : Int), V.int (n : Int), V.int (b : Int), V.int (n : Int)])) b' = some (.tup ys) → b' ≠ Dd := fun b' ys e => ne_of e (su _ _ (st _ _ hd)) (by intro z; cases z)
      refine Ea.push (he.imp fun c' k' q => ?_) (b5 _ _ (hdd _ _ upd_same) upd_same)
      have e' := su _ _ (st _ _ q)
      exact b5 _ _ (hdd _ _ e') e'
    have hl2 : ps.length = (tblN ps ns).length := (tblN_len nok).symm
    rw [hl2, List.take_length] at he
    have htl := tblN_len nok
    refine ⟨_, rfl, by show 1 ≤ sizeLine; decide, fun z hz => ?_⟩
    have ez := new_ (o := .lst [V.int 0]) hz
    have gz : (upd H1 z (.lst [V.int 0])) z = some (.lst (natsV [0])) := upd_same
    have hd2 := ez _ _ hd
    have he2 : Ea (upd H1 z (.lst [V.int 0])) isR acc (tblN ps ns) := he.imp fun c r q => ez _ _ q
    have s2 := s1.trans ez
    generalize (upd H1 z (.lst [V.int 0])) = H2 at gz hd2 he2 s2 ⊢
    refine ⟨Dd, z, .l, .l, acc, tblN ps ns, [0], rfl, SqL.of hd2, he2, SqL.of gz, tblN_ok nok, st0 nok, by omega, by show 1 ≤ 100; decide, fun t T1 T2 refs' H3 ht hT1 hE3 hT2 s3 => ?_⟩
    refine ⟨t, _, rfl, SqT.of ht, rfl, _, _, rfl, _, _, rfl, rfl, ?_⟩
    refine ⟨_, rfl, T1, rfl, ⟨_, SqT.of hT1⟩, fun Lr hLr => ?_⟩
    have eL := new_ (o := .lst []) hLr
    have llf := JK.leastC_len nok
    have llc : (leastC ps ns).length = (LF.lf (tblN ps ns) [0]).1.length := List.length_map _
    have lr : refs'.length = (LF.lf (tblN ps ns) [0]).1.length := hE3.1
    refine lc_tup (K := K) (a := T1) (xs := refs') (fun i H' => Same H3 H' ∧ ∃ acc, H' Lr = some (.lst acc) ∧ Ea H' isCr acc (((LF.lf (tblN ps ns) [0]).1.take i).map crOf)) ?_ ?_ ?_ ?_
    · exact ⟨eL, [], upd_same, Ea.nil⟩
    · rintro i H' _ ⟨s', _⟩
      exact SqT.of (s' _ _ hT1)
    · rintro i x H4 hx ⟨s4, acc', hd4, he4⟩
      obtain ⟨c, r, rfl, hr', hc⟩ := hE3.at_ hx
      have hlab := (JK.lf_eq nok (List.mem_of_getElem? hr')).2
      obtain ⟨a1, n1, a2, n2⟩ := r
      have hlab : n1 < 4 := hlab
      have hc4 : H4 c = some (.tup [.int (a1 : Int), .int (n1 : Int), .int (a2 : Int), .int (n2 : Int)]) := s4 _ _ hc
      have hi : i < (LF.lf (tblN ps ns) [0]).1.length := (List.getElem?_eq_some_iff.mp hr').1
      refine ⟨c, _, rfl, SqT.of hc4, rfl, _, _, rfl, _, _, rfl, _, _, rfl, _, _, rfl, rfl, rfl, ?_⟩
      dsimp only [tYes]
      rw [if_pos rfl]
      refine ⟨_, rfl, _, rfl, _, rfl, DV, VW.map V.str, (n1 : Int), .str (vt n1), rfl, rfl, hV _, atI_nat (by rw [List.getElem?_map, vw_at hlab]; rfl), by show 3 ≤ sizeLine; decide, fun u hu => ?_⟩
      have su := new_ (o := .tup [V.int (a1 : Int), V.int (a2 : Int), .str (vt n1)]) hu
      have hd5 := su _ _ hd4
      refine ⟨acc', hd5, ?_, fun d o e => ?_, _, upd_same, ?_⟩
      · rw [he4.1, List.length_map, List.length_take]
        exact Nat.lt_of_le_of_lt (Nat.min_le_left _ _) (Nat.lt_of_lt_of_le (by omega : i < 1000) (by decide))
      · rw [upd_ne (ne_of_none e hLr)]
        exact su _ _ (s4 _ _ e)
      · rw [L2.take_succ' hr', List.map_append]
        exact ((he4.same su).imp fun c r q => TupOf.lst q hd5).push (TupOf.lst (f := cv) (r := crOf (a1, n1, a2, n2)) upd_same hd5)
    rintro H4 ⟨s4, acc', hd4, he4⟩
    rw [lr, List.take_length] at he4
    exact kk Lr acc' H4 ((s2.trans s3).trans s4) (Same.none (s2.trans s3) hLr) hd4 he4
end
end PA

set_option maxHeartbeats 2000000
namespace PLow
open PySem PySem.W PySem.Calls PyProof.Rows
section
variable {prog : Program} {w : World} {M : Model} {A : Around} {E : Value → Shared → Prop} {s : Shared} {K : Frag} {x C L f : Addr} {h₀ : Heap} {m : Str → Option Value} {ox : Obj} {od : Option Obj} {nm : String}

/-- an int's own slot declines an instance -/
theorem add_declines {a : Int} {t : Tok} {R : PySem.Fin → Shared → Prop} (ho : s.heap.get? x = some ox) (hd : ∀ v, ox.data ≠ .prim v) (h : R (.done (.ret .notImplemented)) s) :
    wpAny (model prog w) A (Builtin.«int.__add__» ⟨[Value.int a t, Value.ref x], []⟩) R E s := by
  obtain ⟨hp, g, d, tk, os⟩ := s
  wp_walk
  split
  · rename_i e
    exact absurd e (hd _)
  · wp_walk
    exact h
theorem sub_declines {a : Int} {t : Tok} {R : PySem.Fin → Shared → Prop} (ho : s.heap.get? x = some ox) (hd : ∀ v, ox.data ≠ .prim v) (h : R (.done (.ret .notImplemented)) s) :
    wpAny (model prog w) A (Builtin.«int.__sub__» ⟨[Value.int a t, Value.ref x], []⟩) R E s := by
  obtain ⟨hp, g, d, tk, os⟩ := s
  wp_walk
  split
  · rename_i e
    exact absurd e (hd _)
  · wp_walk
    exact h
theorem mul_declines {a : Int} {t : Tok} {R : PySem.Fin → Shared → Prop} (ho : s.heap.get? x = some ox) (hd : ∀ v, ox.data ≠ .prim v) (h : R (.done (.ret .notImplemented)) s) :
    wpAny (model prog w) A (Builtin.«int.__mul__» ⟨[Value.int a t, Value.ref x], []⟩) R E s := by
  obtain ⟨hp, g, d, tk, os⟩ := s
  wp_walk
  split
  · rename_i e
    exact absurd e (hd _)
  · wp_walk
    exact h

/-- the left operand's own slot, the right one declines: an int and an instance with the reflected method -/
theorem rbin {op : Operator} {id : String} {a : Int} {t : Tok} {B : Builtin} {Q : Value → Shared → Prop} {g : Addr} (F : Fr h₀ L s.heap m) (X₀ : K.In h₀) (I : InstAt s.heap x ox C od) (hc : selfFirst K C = true)
    (hs : findIn K (.ref C) (PySem.dunder op.info.2) = some (some (.ref g))) (hr : findIn K (.ref C) (dunderR op.info.2) = some (some (.ref f))) (hf : isFn K (.ref f) = true)
    (hfT : fillsNumberSlot (.type "int") op.info.2 = pure true) (hsub : subIn K (.ref C) (.type "int") = some false)
    (slot : Slot "int" (PySem.dunder op.info.2) id) (entry : entryFor table id = some B) (args : argsOk id ⟨[Value.int a t, .ref x], []⟩)
    (dec : ∀ (A : Around) (E : Value → Shared → Prop) (R : PySem.Fin → Shared → Prop), R (.done (.ret .notImplemented)) s → wpAny (model prog w) A (B ⟨[Value.int a t, .ref x], []⟩) R E s)
    (h : wpAny (model prog w) A (call (.ref f) [.ref x, .int a t]) (PySem.W.CmpBack Q) E s) : wpAny (model prog w) A (binaryOp op (.int a t) (.ref x)) Q E s := by
  have X := X₀.keeps F.keep
  obtain ⟨cd, rest, hcd, hm⟩ := ksp_first hc
  rcases hi : op.info with ⟨sym, nm'⟩
  rw [hi] at hs hr hfT slot
  dsimp only at hs hr hfT slot
  have one := ksp_try X I hr hf h
  have L0 : Looks (model prog w) s.heap (typeOf (.int a t)) (.type "int") := Looks.of_pure rfl
  have L1 : Looks (model prog w) s.heap (typeOf (.ref x)) (.ref C) := I.type
  have L3 : Looks (model prog w) s.heap (fillsNumberSlot (.ref C) nm') true := fills_K X hcd hm hs
  have L5 : Looks (model prog w) s.heap (isSubtype (.ref C) (.type "int")) false := looks_subIn X hsub
  have hne : (Value.type "int" == Value.ref C) = false := Bool.eq_false_iff.mpr fun q => by cases beq_iff_eq.mp q
  have hpy : numberSlotInPython (.type "int") nm' = pure false := rfl
  simp only [binaryOp, hi]
  refine wpAny_holding (wpAny_bind ?_)
  unfold binaryOp1
  refine wpAny_bind (L0.here (wpAny_bind (L1.here (wpAny_bind (wpAny_of_eq hfT ?_)))))
  simp only [hne, Bool.false_eq_true, if_false]
  refine wpAny_bind (L3.here ?_)
  simp only [Bool.and_self, if_true]
  refine wpAny_bind (L5.here ?_)
  simp only [Bool.false_eq_true, if_false, pure_bind, Bool.not_false, Bool.and_self, if_true, hpy]
  refine wpAny_bind (wpAny_tryMethod_declines (id := id) (typeIs_int s a t) slot ?_)
  refine GQ.call_here slot (typeIs_int s a t) entry args (dec _ _ _ ?_)
  refine ⟨rfl, ?_⟩
  refine wpAny_bind (wpAny_mono one (fun r s' hr' => ?_) fun _ _ e => e)
  obtain ⟨v, rfl, hq⟩ := hr'
  dsimp only
  exact wpAny_bind (wpAny_rule (wpAny_pure (wpAny_pure hq)))

/-- abs(x) by the own method -/
theorem abs_own {Q : Value → Shared → Prop} (F : Fr h₀ L s.heap m) (X₀ : K.In h₀) (I : InstAt s.heap x ox C od) (hs : findIn K (.ref C) "__abs__" = some (some (.ref f))) (hf : isFn K (.ref f) = true)
    (h : wpAny (model prog w) A.in1 (call (.ref f) [.ref x]) Q E s) : wpAny (model prog w) A (call (.builtin "abs") [.ref x]) Q E s := by
  refine call_function_entry kind_abs plain_abs entry_abs (args_abs _) ?_
  unfold Builtin.«abs»
  refine wpAny_bind (m := oneArg "abs" _) (wpAny_pure ?_)
  refine wpAny_bind (special_fn (X₀.keeps F.keep) I hs (beq_iff_eq.mp hf) ?_)
  exact wpAny_mono h (fun v s' q => wpAny_pure ⟨v, rfl, q⟩) fun _ _ z => z
end
end PLow

namespace L2
open PySem PySem.Spec PyProof.Rows
section
variable {X : Cx} {CX : CXT} {k : Nat} {C f g : Addr} {fd : FuncData} {ps : List Str} {sp : Sp} {E : XK} {op : Operator}
theorem cmpBack_of {pins : List (Addr × Obj)} {σ : St} {Q : VK} {u : Value} {s' : Shared} (h : EP X pins σ Q u s') : PySem.W.CmpBack (EP X pins σ Q) u s' := by
  obtain ⟨v, H', I, r, q⟩ := id h
  cases v with
  | non => cases (show u = Value.none from r); exact h
  | bl b => cases (show u = Value.bool b from r); exact h
  | int i => obtain ⟨t, e⟩ := (show ∃ t, u = Value.int i t from r); cases e; exact h
  | str x => obtain ⟨t, e⟩ := (show ∃ t, u = Value.str x t from r); cases e; exact h
  | byt b => obtain ⟨t, e⟩ := (show ∃ t, u = Value.bytes b t from r); cases e; exact h
  | flt b => obtain ⟨t, e⟩ := (show ∃ t, u = Value.float b t from r); cases e; exact h
  | ref a => cases (show u = Value.ref a from r); exact h
  | ty n => cases (show u = Value.type n from r); exact h
/-- what of the class an own operator asks: f the method, g the reflected one -/
structure OwnOp (K : PySem.W.Frag) (C f g : Addr) (op : Operator) : Prop where
  first : PySem.W.selfFirst K C = true
  at_ : PySem.W.findIn K (.ref C) (PySem.dunder op.info.2) = some (some (.ref f))
  fn : PySem.W.isFn K (.ref f) = true
  ar : PySem.W.findIn K (.ref C) (dunderR op.info.2) = some (some (.ref g))
  fr : PySem.W.isFn K (.ref g) = true
  sub : PySem.W.subIn K (.type "int") (.ref C) = some false
  sub' : PySem.W.subIn K (.ref C) (.type "int") = some false
/-- x op y, x an instance with the own method, y an instance of the same class -/
theorem op_ownR (O : OwnOp X.K C f g op) (F : FnOk X.prog X.w X.K X.mg X.base CX k f fd ps sp) (hr : Room k X.A) (hb : Binds X.K fd ps []) (hx : Passes CX X E) :
    OpR X (binaryOp op) (fun x y H Q => ∃ a b dx dy fs gs, x = .ref a ∧ y = .ref b ∧ H a = some (.ins C dx fs) ∧ H b = some (.ins C dy gs) ∧ sp [.ref a, .ref b] H Q E) := by
  intro pins s σ H x y v u Q I rx ry h
  obtain ⟨a, b, dx, dy, fs, gs, rfl, rfl, ha, hb', q⟩ := h
  cases rx
  cases ry
  obtain ⟨mA, J, _⟩ := ins_get I.hok ha
  obtain ⟨mB, J', _⟩ := ins_get I.hok hb'
  obtain ⟨od, J, _⟩ := J.look
  obtain ⟨od', J', _⟩ := J'.look
  obtain ⟨m, hF⟩ := I.fr
  refine PySem.W.binop_K hF I.ok.mod.kin J J'.type O.first O.at_ O.fn ?_
  exact wpAny_mono (run_fn (us := [.ref a, .ref b]) (vs := [.ref a, .ref b]) F hr hb .nil hx I (.cons rfl (.cons rfl .nil)) q) (fun _ _ z => cmpBack_of z) fun _ _ z => z
/-- x op i, i an int -/
theorem op_ownI {fo ro : Option Value} (O : OwnOp X.K C f g op) (h1 : PySem.W.findIn X.K (.type "int") (PySem.dunder op.info.2) = some fo) (h2 : PySem.W.findIn X.K (.type "int") (dunderR op.info.2) = some ro)
    (F : FnOk X.prog X.w X.K X.mg X.base CX k f fd ps sp) (hr : Room k X.A) (hb : Binds X.K fd ps []) (hx : Passes CX X E) :
    OpR X (binaryOp op) (fun x y H Q => ∃ a i dx fs, x = .ref a ∧ y = .int i ∧ H a = some (.ins C dx fs) ∧ sp [.ref a, .int i] H Q E) := by
  intro pins s σ H x y v u Q I rx ry h
  obtain ⟨a, i, dx, fs, rfl, rfl, ha, q⟩ := h
  cases rx
  obtain ⟨t, rfl⟩ := ry
  obtain ⟨mA, J, _⟩ := ins_get I.hok ha
  obtain ⟨od, J, _⟩ := J.look
  obtain ⟨m, hF⟩ := I.fr
  refine PySem.W.ksp_binT hF I.ok.mod.kin J rfl O.first O.at_ O.fn O.ar (.inr ⟨_, rfl⟩) h1 h2 O.sub ?_
  exact wpAny_mono (run_fn (us := [.ref a, .int i t]) (vs := [.ref a, .int i]) F hr hb .nil hx I (.cons rfl (.cons ⟨t, rfl⟩ .nil)) q) (fun _ _ z => cmpBack_of z) fun _ _ z => z
/-- i op x, i an int: the reflected method, F of g -/
theorem op_ownL {id : String} {B : Builtin} (O : OwnOp X.K C f g op) (hfT : fillsNumberSlot (.type "int") op.info.2 = pure true)
    (slot : PySem.Slot "int" (PySem.dunder op.info.2) id) (entry : entryFor table id = some B) (args : ∀ i t x, argsOk id ⟨[Value.int i t, .ref x], []⟩)
    (dec : ∀ (i : Int) (t : Tok) (x : Addr) (ox : Obj) (s : Shared), s.heap.get? x = some ox → (∀ v, ox.data ≠ .prim v) → ∀ (A : Around) (E : Value → Shared → Prop) (R : PySem.Fin → Shared → Prop), R (.done (.ret .notImplemented)) s →
      wpAny (model X.prog X.w) A (B ⟨[Value.int i t, .ref x], []⟩) R E s)
    (F : FnOk X.prog X.w X.K X.mg X.base CX k g fd ps sp) (hr : Room k X.A) (hb : Binds X.K fd ps []) (hx : Passes CX X E) :
    OpR X (binaryOp op) (fun x y H Q => ∃ a i dx fs, x = .int i ∧ y = .ref a ∧ H a = some (.ins C dx fs) ∧ sp [.ref a, .int i] H Q E) := by
  intro pins s σ H x y v u Q I rx ry h
  obtain ⟨a, i, dx, fs, rfl, rfl, ha, q⟩ := h
  obtain ⟨t, rfl⟩ := rx
  cases ry
  obtain ⟨mA, J, _⟩ := ins_get I.hok ha
  have ho := J.obj
  obtain ⟨od, J, _⟩ := J.look
  obtain ⟨m, hF⟩ := I.fr
  refine PLow.rbin hF I.ok.mod.kin J O.first O.at_ O.ar O.fr hfT O.sub' slot entry (args _ _ _) (dec i t a _ s ho (fun v z => by simp [PySem.W.instObj] at z)) ?_
  exact wpAny_mono (run_fn (us := [.ref a, .int i t]) (vs := [.ref a, .int i]) F hr hb .nil hx I (.cons rfl (.cons ⟨t, rfl⟩ .nil)) q) (fun _ _ z => cmpBack_of z) fun _ _ z => z
/-- -x -/
theorem un_own (hs : PySem.W.findIn X.K (.ref C) "__neg__" = some (some (.ref f))) (hf : PySem.W.isFn X.K (.ref f) = true) (F : FnOk X.prog X.w X.K X.mg X.base CX k f fd ps sp) (hr : Room k X.A) (hb : Binds X.K fd ps []) (hx : Passes CX X E) :
    UnR X (unaryOp .USub) (fun x H Q => ∃ a dx fs, x = .ref a ∧ H a = some (.ins C dx fs) ∧ sp [.ref a] H Q E) := by
  intro pins s σ H x v Q I rx h
  obtain ⟨a, dx, fs, rfl, ha, q⟩ := h
  cases rx
  obtain ⟨mA, J, _⟩ := ins_get I.hok ha
  obtain ⟨od, J, _⟩ := J.look
  obtain ⟨m, hF⟩ := I.fr
  refine PySem.W.ksp_neg hF I.ok.mod.kin J hs hf ?_
  exact run_fn (us := [.ref a]) (vs := [.ref a]) F hr hb .nil hx I (.cons rfl .nil) q
/-- abs(x) -/
theorem call_absOwn (hs : PySem.W.findIn X.K (.ref C) "__abs__" = some (some (.ref f))) (hf : PySem.W.isFn X.K (.ref f) = true) (F : FnOk X.prog X.w X.K X.mg X.base CX k f fd ps sp) (hr : Room (k + 1) X.A) (hb : Binds X.K fd ps []) (hx : Passes CX X E) :
    CallR X (.builtin "abs") (fun xs H Q => ∃ a dx fs, xs = [.ref a] ∧ H a = some (.ins C dx fs) ∧ sp [.ref a] H Q E) := by
  intro pins s σ H xs us Q I r h
  obtain ⟨a, dx, fs, rfl, ha, q⟩ := h
  cases r with
  | cons r1 r2 =>
    cases r2
    cases r1
    obtain ⟨mA, J, _⟩ := ins_get I.hok ha
    obtain ⟨od, J, _⟩ := J.look
    obtain ⟨m, hF⟩ := I.fr
    refine PLow.abs_own hF I.ok.mod.kin J hs hf ?_
    have hl := F.len _ _ _ _ q
    have r2 : Vals [V.ref a] [Value.ref a] := .cons rfl .nil
    refine wpAny_call (codeAny_mono (F.run X.A.in1 X.stack s H ⟨[.ref a], []⟩ [.ref a] [.ref a] Q E hr.in1 I.env0.in1 (by
      have := hb s [.ref a] I.kIn (by simpa using hl)
      simpa using this) r2 q) fun r s' hq => ?_)
    cases r with
    | error e => exact hx pins σ H s e s' I hq
    | ok fl =>
      cases fl with
      | ret w => exact I.after hq
      | next => exact False.elim hq
      | brk => exact False.elim hq
      | cont => exact False.elim hq
/-- // by any divisor but 0 below 2 ^ 9000 in size -/
def CDivS (_ j : Int) : Prop := j ≠ 0 ∧ j.natAbs.log2 < 9000
theorem op_fdivS : OpR X (binaryOp .FloorDiv) (rI CDivS fun i j => .int (i.fdiv j)) := opI fun i j _ _ _ _ _ hc q =>
  floordiv_int hc.1 q (.inl (PyProof.noPylong_of_log2 hc.2))
end
end L2

set_option maxHeartbeats 4000000
namespace PLow
open PySem PySem.W PySem.Calls PyProof.Rows
section
variable {K : Frag} {prog : Program} {w : World} {A : Around} {E : Value → Shared → Prop} {s : Shared} {x y f f2 C D L : Addr} {ox oy : Obj} {od od2 : Option Obj} {h₀ : Heap} {m : Str → Option Value}
/-- x op y, y an instance of another own class that has the operator too -/
theorem ksp_binC {op : Operator} {rc rd : Option Value} {Q : Value → Shared → Prop} (F : Fr h₀ L s.heap m) (X₀ : K.In h₀) (I : W.InstAt s.heap x ox C od) (J : W.InstAt s.heap y oy D od2) (hc : selfFirst K C = true) (hd : selfFirst K D = true)
    (hs : findIn K (.ref C) (PySem.dunder op.info.2) = some (some (.ref f))) (hf : isFn K (.ref f) = true) (hr : findIn K (.ref C) (dunderR op.info.2) = some rc) (hp : rc = none ∨ ∃ g : Addr, rc = some (.ref g))
    (hs2 : findIn K (.ref D) (PySem.dunder op.info.2) = some (some (.ref f2))) (hr2 : findIn K (.ref D) (dunderR op.info.2) = some rd) (hp2 : rd = none ∨ ∃ g : Addr, rd = some (.ref g))
    (hne : (Value.ref C == Value.ref D) = false) (hsub : subIn K (.ref D) (.ref C) = some false)
    (h : wpAny (model prog w) A (call (.ref f) [.ref x, .ref y]) (W.CmpBack Q) E s) : wpAny (model prog w) A (binaryOp op (.ref x) (.ref y)) Q E s := by
  have inNow := X₀.keeps F.keep
  have ⟨kC, tC, lookC, mroC⟩ := ksp_first hc
  have ⟨kD, tD, lookD, mroD⟩ := ksp_first hd
  cases hop : op.info with
  | mk sgn word =>
    rw [hop] at hs hr hs2 hr2
    have go := ksp_try inNow I hs hf h
    have a1 := I.type (M := model prog w)
    have a2 := J.type (M := model prog w)
    have a3 := fills_K (M := model prog w) inNow lookC mroC hs
    have a4 := fills_K (M := model prog w) inNow lookD mroD hs2
    have a5 := looks_subIn (M := model prog w) inNow hsub
    have a6 := ksp_inPy (M := model prog w) inNow hs hr hp
    have a7 := ksp_inPy (M := model prog w) inNow hs2 hr2 hp2
    cases s with
    | mk hh gg dd tt oo =>
      simp only [binaryOp, hop]
      refine wpAny_holding (wpAny_bind ?_)
      unfold binaryOp1
      refine wpAny_bind (a1.at ?_)
      refine wpAny_bind (a2.at ?_)
      refine wpAny_bind (a3.at ?_)
      simp only [hne, Bool.false_eq_true, if_false]
      ksp_lk
      refine wpAny_mono go ?_ fun _ _ z => z
      rintro _ s2 ⟨v, rfl, qv⟩
      ksp_lk
      exact qv
end
end PLow
namespace L2
open PySem PySem.Spec PyProof.Rows
section
variable {X : Cx} {CX : CXT} {k : Nat} {C D f f2 : Addr} {fd : FuncData} {ps : List Str} {sp : Sp} {E : XK} {op : Operator}
/-- an own operator between two instances of one class -/
structure OwnS (K : PySem.W.Frag) (C f : Addr) (op : Operator) : Prop where
  first : PySem.W.selfFirst K C = true
  at_ : PySem.W.findIn K (.ref C) (PySem.dunder op.info.2) = some (some (.ref f))
  fn : PySem.W.isFn K (.ref f) = true
/-- an own operator between an instance of C and one of D, which has it too -/
structure OwnX (K : PySem.W.Frag) (C D f f2 : Addr) (op : Operator) : Prop where
  S : OwnS K C f op
  S2 : OwnS K D f2 op
  ar : ∃ rc : Option Value, PySem.W.findIn K (.ref C) (dunderR op.info.2) = some rc ∧ (rc = none ∨ ∃ g : Addr, rc = some (.ref g))
  ar2 : ∃ rc : Option Value, PySem.W.findIn K (.ref D) (dunderR op.info.2) = some rc ∧ (rc = none ∨ ∃ g : Addr, rc = some (.ref g))
  ne : (Value.ref C == Value.ref D) = false
  sub : PySem.W.subIn K (.ref D) (.ref C) = some false
theorem op_ownS (O : OwnS X.K C f op) (F : FnOk X.prog X.w X.K X.mg X.base CX k f fd ps sp) (hr : Room k X.A) (hb : Binds X.K fd ps []) (hx : Passes CX X E) :
    OpR X (binaryOp op) (fun x y H Q => ∃ a b dx dy fs gs, x = .ref a ∧ y = .ref b ∧ H a = some (.ins C dx fs) ∧ H b = some (.ins C dy gs) ∧ sp [.ref a, .ref b] H Q E) := by
  intro pins s σ H x y v u Q I rx ry h
  obtain ⟨a, b, dx, dy, fs, gs, rfl, rfl, ha, hb', q⟩ := h
  cases rx
  cases ry
  obtain ⟨mA, J, _⟩ := ins_get I.hok ha
  obtain ⟨mB, J', _⟩ := ins_get I.hok hb'
  obtain ⟨od, J, _⟩ := J.look
  obtain ⟨od', J', _⟩ := J'.look
  obtain ⟨m, hF⟩ := I.fr
  refine PySem.W.binop_K hF I.ok.mod.kin J J'.type O.first O.at_ O.fn ?_
  exact wpAny_mono (run_fn (us := [.ref a, .ref b]) (vs := [.ref a, .ref b]) F hr hb .nil hx I (.cons rfl (.cons rfl .nil)) q) (fun _ _ z => cmpBack_of z) fun _ _ z => z
theorem op_ownX (O : OwnX X.K C D f f2 op) (F : FnOk X.prog X.w X.K X.mg X.base CX k f fd ps sp) (hr : Room k X.A) (hb : Binds X.K fd ps []) (hx : Passes CX X E) :
    OpR X (binaryOp op) (fun x y H Q => ∃ a b dx dy fs gs, x = .ref a ∧ y = .ref b ∧ H a = some (.ins C dx fs) ∧ H b = some (.ins D dy gs) ∧ sp [.ref a, .ref b] H Q E) := by
  intro pins s σ H x y v u Q I rx ry h
  obtain ⟨a, b, dx, dy, fs, gs, rfl, rfl, ha, hb', q⟩ := h
  cases rx
  cases ry
  obtain ⟨mA, J, _⟩ := ins_get I.hok ha
  obtain ⟨mB, J', _⟩ := ins_get I.hok hb'
  obtain ⟨od, J, _⟩ := J.look
  obtain ⟨od', J', _⟩ := J'.look
  obtain ⟨m, hF⟩ := I.fr
  obtain ⟨rc, r1, r2⟩ := O.ar
  obtain ⟨rd, r3, r4⟩ := O.ar2
  refine PLow.ksp_binC hF I.ok.mod.kin J J' O.S.first O.S2.first O.S.at_ O.S.fn r1 r2 O.S2.at_ r3 r4 O.ne O.sub ?_
  exact wpAny_mono (run_fn (us := [.ref a, .ref b]) (vs := [.ref a, .ref b]) F hr hb .nil hx I (.cons rfl (.cons rfl .nil)) q) (fun _ _ z => cmpBack_of z) fun _ _ z => z
end
end L2

set_option maxHeartbeats 8000000
namespace PA
open PySem L2 RZ
open C8 (pss_cut tCut)
open JM (fol Bd en LineOk)
open JW (JT JP)
open JK (JQ num lnC leastC NOk XC)
abbrev sAnd : Stmt := inClass (top 27) 6
abbrev sOr : Stmt := inClass (top 27) 7
abbrev sInv : Stmt := inClass (top 27) 8
theorem pe_fldF {X : Cx} {K : PySem.W.Frag} (hK : X.K = K) {e : PySem.Expr} {f : Str} {pos : Pos} {ta : TE} (h : PE X e ta) (h2 : attributeBase e f X.env (eval e X.env) = eval e X.env := by rfl) : PE X (e.Attribute f pos) (tFld K ta f) := by
  subst hK
  exact pe_fld h h2
theorem inv_own {X : Cx} {CX : CXT} {k : Nat} {C f : Addr} {fd : FuncData} {ps : List Str} {sp : Sp} {E : XK} (hs : PySem.W.findIn X.K (.ref C) "__invert__" = some (some (.ref f))) (hf : PySem.W.isFn X.K (.ref f) = true) (F : FnOk X.prog X.w X.K X.mg X.base CX k f fd ps sp) (hr : Room k X.A) (hb : Binds X.K fd ps []) (hx : Passes CX X E) :
    UnR X (unaryOp .Invert) (fun x H Q => ∃ a dx fs, x = .ref a ∧ H a = some (.ins C dx fs) ∧ sp [.ref a] H Q E) := by
  intro pins s σ H x v Q I rx h
  obtain ⟨a, dx, fs, rfl, ha, q⟩ := h
  cases rx
  obtain ⟨mA, J, _⟩ := ins_get I.hok ha
  obtain ⟨od, J, _⟩ := J.look
  obtain ⟨m, hF⟩ := I.fr
  refine PySem.W.ksp_inv hF I.ok.mod.kin J hs hf ?_
  exact run_fn (us := [.ref a]) (vs := [.ref a]) F hr hb .nil hx I (.cons rfl .nil) q
theorem and4 {a b : Nat} (ha : a < 4) (hb : b < 4) : Builtin.bitAnd (a : Int) (b : Int) = ((a &&& b : Nat) : Int) ∧ a &&& b < 4 := by
  rcases (by omega : a = 0 ∨ a = 1 ∨ a = 2 ∨ a = 3) with rfl | rfl | rfl | rfl <;> rcases (by omega : b = 0 ∨ b = 1 ∨ b = 2 ∨ b = 3) with rfl | rfl | rfl | rfl <;> exact ⟨by decide +kernel, by decide⟩
theorem or4 {a b : Nat} (ha : a < 4) (hb : b < 4) : Builtin.bitOr (a : Int) (b : Int) = ((a ||| b : Nat) : Int) ∧ a ||| b < 4 := by
  rcases (by omega : a = 0 ∨ a = 1 ∨ a = 2 ∨ a = 3) with rfl | rfl | rfl | rfl <;> rcases (by omega : b = 0 ∨ b = 1 ∨ b = 2 ∨ b = 3) with rfl | rfl | rfl | rfl <;> exact ⟨by decide +kernel, by decide⟩
abbrev NOp : List Str := ["self", "other", "pairs", "rows", "numbers", "one", "two"]
abbrev NInv : List Str := ["self", "numbers", "state", "number"]
def numsP (op : Nat → Nat → Nat) (A B : List Cr) (Pl : List Ln) : List Nat := Pl.map fun p => op (num A (p.1.getD 0)) (num B (p.2.getD 0))
theorem numsP_at {op : Nat → Nat → Nat} {A B : List Cr} {Pl : List Ln} {k a b : Nat} (h : Pl[k]? = some (some a, some b)) : (numsP op A B Pl)[k]? = some (op (num A a) (num B b)) := by
  unfold numsP
  rw [List.getElem?_map, h]
  rfl
theorem okC_least {ps : List Ln} {ns : List Nat} (o : NOk ps ns) : OkC (leastC ps ns) := ⟨JK.leastC_one o, JK.leastC_ok o⟩
def spOp (C : Addr) (op : Nat → Nat → Nat) : Sp := fun vs H Q _ => ∃ (p q : Addr) (A B : List Cr), vs = [.ref p, .ref q] ∧ ClaimAt C H p A ∧ ClaimAt C H q B ∧ OkC A ∧ OkC B ∧ A.length ≤ 10 ∧ B.length ≤ 10 ∧
  ∀ (r : Addr) (J : List Cr) H', Same H H' → XC op A B J → OkC J → J.length ≤ 121 → ClaimAt C H' r J → Q (.ref r) H'
def spInv (C : Addr) : Sp := fun vs H Q _ => ∃ (p : Addr) (A : List Cr), vs = [.ref p] ∧ ClaimAt C H p A ∧ OkC A ∧ A.length ≤ 121 ∧
  ∀ (r : Addr) (J : List Cr) H', Same H H' → XC (fun a _ => 3 - a) A A J → OkC J → J.length ≤ A.length → ClaimAt C H' r J → Q (.ref r) H'
section
variable {P : Program} {w : World} {K : PySem.W.Frag} {mg : Str → Option Value} {base : Heap} {C Fo f1 f2 f3 f4 f5 f6 f7 : Addr} {d1 d2 d3 d4 d5 d6 d7 : FuncData}
theorem scand : FnScope NOp ["self", "other"] (defScope sAnd) := ⟨rfl, rfl, rfl, by decide +kernel, rfl, by decide +kernel, by decide +kernel⟩
theorem ok_and {f fC fF fR fN g1 g2 : Addr} {fd dC dF dR dN gd1 gd2 : FuncData} (F : Fun K "__and__" "Claim.__and__" sAnd f fd) (T : Txt K mg) (TV : TxtV K mg) (TC : TxtC K mg C Fo) (TF : TxtF K Fo) (TI : TxtF K C) (L : LibF K mg f1 f2 f3 f4 f5 f6 f7 d1 d2 d3 d4 d5 d6 d7) (DR : Df K mg "_least_rows" sLR fR dR ["rows", "numbers"]) (DN : Df K mg "_number" sNum fN dN ["rows", "state"])
    (D1 : Df K mg "_following" sFol g1 gd1 ["first", "second", "pair", "at", "either"]) (D2 : Df K mg "joined" sJoin g2 gd2 ["first", "second", "either"])
    (CI : Fun K "__init__" "Claim.__init__" sInit fC dC) (CM : Mk K C fC) (Cb : Binds K dC ["self", "rows"] []) (FI : Fun K "__init__" "Found.__init__" sFInit fF dF) (FM : Mk K Fo fF) (Fb : Binds K dF ["self", "rows"] []) : FnOk P w K mg base CX0 6 f fd ["self", "other"] (spOp C (fun a b => a &&& b)) := by
  have GR : FnOk P w K mg base CX0 5 fR dR ["rows", "numbers"] (spLR K) := ok_lr DR.F T TV L
  have GN : FnOk P w K mg base CX0 1 fN dN ["rows", "state"] spNum := ok_num DN.F TV
  have GC : FnOk P w K mg base CX0 1 fC dC ["self", "rows"] (spInitF C Fo) := ok_initF CI T TC TF
  have GF : FnOk P w K mg base CX0 1 fF dF ["self", "rows"] (spFInit Fo) := ok_finit FI T TF
  have GJ : FnOk P w K mg base CX0 2 g2 gd2 ["first", "second", "either"] (spJoin K) := ok_join D2.F T D1
  refine F.ok scand (fun vs H Q E h => ?_) (fun cdv A0 outer s H vs Q E hr h => ?_)
  · obtain ⟨p, q, _, _, rfl, _⟩ := h
    rfl
  · obtain ⟨p, q, A, B, rfl, ⟨dx, R1, refs1, hp, h1, e1⟩, ⟨dy, R2, refs2, hq, h2, e2⟩, gA, gB, lA, lB, kk⟩ := h
    have hr1 : Room 1 _ := hr.mono (by decide)
    have hr2 : Room 2 _ := hr.mono (by decide)
    refine ⟨_, pss_cons (ps_if (pt_not (pt_val (pe_callB call_isi (by rfl) T.isi boot_isi (pa_cons (pv 1) (pa_cons (pe_glob (v := .ref C) rfl TC.mgC rfl) pa_nil))))) pss_never pss_nil)
      (pss_cons (ps_asg (pe_call GJ hr2 rfl D2.M D2.F.kp D2.B .nil pass0 (pa_cons (pe_fld (pv 0) rfl) (pa_cons (pe_fld (pv 1) rfl) (pa_cons pe_bl pa_nil)))) (pg_tup rfl (pgs_cons (pg_name (i := 2) scand.nd rfl (Or.inl rfl)) (pgs_cons (pg_name (i := 3) scand.nd rfl (Or.inl rfl)) pgs_nil))))
      (pss_cons (ps_setLc (i := 4) (own := [("one", 5), ("two", 6)]) (g := gTup K 2 (gCons (gName 5) (gCons (gName 6) gNil))) (tt := tYes) (by rfl) scand.nd rfl rfl (sw_true rfl rfl rfl (by decide +kernel)) (pi_list (pv 2)) (blkOk_by (N := NOp) (sc := defScope sAnd) (by decide +kernel))
          (fun _ _ _ _ _ => pg_tup rfl (pgs_cons (pg_name (i := 5) scand.nd rfl (Or.inl rfl)) (pgs_cons (pg_name (i := 6) scand.nd rfl (Or.inl rfl)) pgs_nil))) (fun _ _ _ _ _ => pts_nil)
          (fun _ _ _ _ _ => pe_op op_and (pe_call GN hr1 rfl DN.M DN.F.kp DN.B .nil pass0 (pa_cons (pe_fldF (K := K) rfl (pv 0)) (pa_cons (pv 5) pa_nil))) (pe_call GN hr1 rfl DN.M DN.F.kp DN.B .nil pass0 (pa_cons (pe_fldF (K := K) rfl (pv 1)) (pa_cons (pv 6) pa_nil)))))
      (pss_one (ps_ret (pe_make (E := E0) CM GC hr2 rfl TC.mgC Cb .nil pass0 (pa_cons (pe_make (E := E0) FM GF hr2 rfl TC.mgF Fb .nil pass0 (pa_cons (pe_call GR hr rfl DR.M DR.F.kp DR.B .nil pass0 (pa_cons (pv 3) (pa_cons (pv 4) pa_nil))) pa_nil)) pa_nil)))))), ?_⟩
    have oA := gA.lineOk
    have oB := gB.lineOk
    have lA' : (A.map lnC).length = A.length := List.length_map _
    have lB' : (B.map lnC).length = B.length := List.length_map _
    refine ⟨_, rfl, _, _, _, _, _, rfl, .own C, .base (.ins hq TI.cl TI.q1 TI.q2 TI.q3 TI.q4), TI.kFF, _, rfl, iteF ?_⟩
    refine ⟨_, rfl, p, C, dx, _, _, rfl, hp, TC.cl, TC.nR, rsf_rows _, _, rfl, q, C, dy, _, _, rfl, hq, TC.cl, TC.nR, rsf_rows _, R1, R2, refs1, refs2, A.map lnC, B.map lnC, false, rfl, h1, Ea.lead e1, h2, Ea.lead e2, oA, oB, by omega, by omega, fun t Pa Rw prs rws Pl Rl H1 s1 ht hP eP hR eR j jq few => ?_⟩
    have fAB : ((A.map lnC).length + 1) * ((B.map lnC).length + 1) ≤ 11 * 11 := Nat.mul_le_mul (by omega) (by omega)
    refine ⟨t, _, rfl, SqT.of ht, rfl, _, _, rfl, _, _, rfl, rfl, ?_⟩
    have lpr : prs.length = Pl.length := eP.1
    have lns : (numsP (fun a b => a &&& b) A B Pl).length = Pl.length := List.length_map _
    have pair : ∀ k p, Pl[k]? = some p → ∃ a b, p = (some a, some b) ∧ a < A.length ∧ b < B.length := fun k p hk => by
      have hm := List.mem_of_getElem? hk
      have b1 := jq.bt p hm
      have b2 := jq.bd p hm
      obtain ⟨p1, p2⟩ := p
      cases p1 with
      | none => cases b1
      | some a =>
        cases p2 with
        | none => cases b1
        | some b => exact ⟨a, b, rfl, by have := b2.1 a rfl; omega, by have := b2.2 b rfl; omega⟩
    refine ⟨_, rfl, Pa, rfl, ⟨_, SqL.of hP⟩, fun D hD => ?_⟩
    refine lc_same (walk_l (K := K) (a := Pa) (xs := prs)) (by rw [lpr]; exact Nat.le_trans (Nat.le_trans few fAB) (by decide)) hD (fun H' s' => SqL.of (s' _ _ hP)) (natsV (numsP (fun a b => a &&& b) A B Pl)) (by unfold natsV; rw [List.length_map, lns, lpr]) (fun i x y H' Φ Ψ hx hy sm k => ?_) fun H2 s2 hd2 => ?_
    · obtain ⟨c, pr, rfl, hpr, q0⟩ := eP.at_ hx
      obtain ⟨a, b, rfl, ha, hb⟩ := pair i pr hpr
      have q0 : H1 c = some (.tup [.int (a : Int), .int (b : Int)]) := q0
      have ey : y = V.int ((num A a &&& num B b : Nat) : Int) := by
        unfold natsV at hy
        rw [List.getElem?_map, numsP_at hpr] at hy
        cases hy
        rfl
      subst ey
      refine ⟨c, _, rfl, SqT.of (sm _ _ q0), rfl, _, _, rfl, _, _, rfl, rfl, rfl, ?_⟩
      dsimp only [tYes]
      rw [if_pos rfl]
      have sH := s1.trans sm
      refine ⟨_, rfl, p, C, dx, _, _, rfl, sH _ _ hp, TC.cl, TC.nR, rsf_rows _, _, rfl, R1, refs1, A, a, rfl, sH _ _ h1, e1.same sH, gA, ha, ?_⟩
      refine ⟨_, rfl, q, C, dy, _, _, rfl, sH _ _ hq, TC.cl, TC.nR, rsf_rows _, _, rfl, R2, refs2, B, b, rfl, sH _ _ h2, e2.same sH, gB, hb, _, _, rfl, rfl, ?_⟩
      have e4 := (and4 (gA.num_lt ha) (gB.num_lt hb)).1
      have := k H' fun _ _ e => e
      rw [← e4] at this
      exact this
    have nok : NOk Rl (numsP (fun a b => a &&& b) A B Pl) := by
      refine ⟨j.one, by rw [lns, j.len], JK.full_join j jq (gA.full) (gB.full), fun x hx => ?_⟩
      obtain ⟨k, hk, rfl⟩ := List.getElem_of_mem hx
      rw [lns] at hk
      obtain ⟨a, b, e, ha, hb⟩ := pair k _ (List.getElem?_eq_getElem hk)
      have e5 := numsP_at (op := fun a b => a &&& b) (A := A) (B := B) (k := k) (Pl := Pl) (by rw [List.getElem?_eq_getElem hk, e])
      rw [(List.getElem?_eq_some_iff.mp e5).2]
      exact (and4 (gA.num_lt ha) (gB.num_lt hb)).2
    have hlen := j.len
    refine ⟨_, rfl, _, rfl, Rw, D, .l, rws, Rl, _, rfl, SqL.of (s2 _ _ hR), Ea.leadL (eR.same s2), hd2, nok, by omega, fun L' refs' H3 s3 _ hL' hE' => ?_⟩
    have ll := JK.leastC_len nok
    have lr : refs'.length = (leastC Rl (numsP (fun a b => a &&& b) A B Pl)).length := hE'.1
    refine fun q dq nq ndq neq => mk_found (E' := E) hL' hE' (by omega) nq ndq neq fun H4 T2 s4 hq2 hT2 => ⟨rfl, ?_⟩
    refine fun x dx' nx ndx nex => mk_setF hq2 hT2 (hE'.same s4) nx ndx nex fun H5 s5 h5 => ⟨rfl, ?_⟩
    exact kk x _ H5 ((((s1.trans s2).trans s3).trans s4).trans s5) (JK.xc_join j nok fun k a b hk => numsP_at hk) (okC_least nok) (by omega) h5
theorem scor : FnScope NOp ["self", "other"] (defScope sOr) := ⟨rfl, rfl, rfl, by decide +kernel, rfl, by decide +kernel, by decide +kernel⟩
theorem ok_or {f fC fF fR fN g1 g2 : Addr} {fd dC dF dR dN gd1 gd2 : FuncData} (F : Fun K "__or__" "Claim.__or__" sOr f fd) (T : Txt K mg) (TV : TxtV K mg) (TC : TxtC K mg C Fo) (TF : TxtF K Fo) (TI : TxtF K C) (L : LibF K mg f1 f2 f3 f4 f5 f6 f7 d1 d2 d3 d4 d5 d6 d7) (DR : Df K mg "_least_rows" sLR fR dR ["rows", "numbers"]) (DN : Df K mg "_number" sNum fN dN ["rows", "state"])
    (D1 : Df K mg "_following" sFol g1 gd1 ["first", "second", "pair", "at", "either"]) (D2 : Df K mg "joined" sJoin g2 gd2 ["first", "second", "either"])
    (CI : Fun K "__init__" "Claim.__init__" sInit fC dC) (CM : Mk K C fC) (Cb : Binds K dC ["self", "rows"] []) (FI : Fun K "__init__" "Found.__init__" sFInit fF dF) (FM : Mk K Fo fF) (Fb : Binds K dF ["self", "rows"] []) : FnOk P w K mg base CX0 6 f fd ["self", "other"] (spOp C (fun a b => a ||| b)) := by
  have GR : FnOk P w K mg base CX0 5 fR dR ["rows", "numbers"] (spLR K) := ok_lr DR.F T TV L
  have GN : FnOk P w K mg base CX0 1 fN dN ["rows", "state"] spNum := ok_num DN.F TV
  have GC : FnOk P w K mg base CX0 1 fC dC ["self", "rows"] (spInitF C Fo) := ok_initF CI T TC TF
  have GF : FnOk P w K mg base CX0 1 fF dF ["self", "rows"] (spFInit Fo) := ok_finit FI T TF
  have GJ : FnOk P w K mg base CX0 2 g2 gd2 ["first", "second", "either"] (spJoin K) := ok_join D2.F T D1
  refine F.ok scor (fun vs H Q E h => ?_) (fun cdv A0 outer s H vs Q E hr h => ?_)
  · obtain ⟨p, q, _, _, rfl, _⟩ := h
    rfl
  · obtain ⟨p, q, A, B, rfl, ⟨dx, R1, refs1, hp, h1, e1⟩, ⟨dy, R2, refs2, hq, h2, e2⟩, gA, gB, lA, lB, kk⟩ := h
    have hr1 : Room 1 _ := hr.mono (by decide)
    have hr2 : Room 2 _ := hr.mono (by decide)
    refine ⟨_, pss_cons (ps_if (pt_not (pt_val (pe_callB call_isi (by rfl) T.isi boot_isi (pa_cons (pv 1) (pa_cons (pe_glob (v := .ref C) rfl TC.mgC rfl) pa_nil))))) pss_never pss_nil)
      (pss_cons (ps_asg (pe_call GJ hr2 rfl D2.M D2.F.kp D2.B .nil pass0 (pa_cons (pe_fld (pv 0) rfl) (pa_cons (pe_fld (pv 1) rfl) (pa_cons pe_bl pa_nil)))) (pg_tup rfl (pgs_cons (pg_name (i := 2) scor.nd rfl (Or.inl rfl)) (pgs_cons (pg_name (i := 3) scor.nd rfl (Or.inl rfl)) pgs_nil))))
      (pss_cons (ps_setLc (i := 4) (own := [("one", 5), ("two", 6)]) (g := gTup K 2 (gCons (gName 5) (gCons (gName 6) gNil))) (tt := tYes) (by rfl) scor.nd rfl rfl (sw_true rfl rfl rfl (by decide +kernel)) (pi_list (pv 2)) (blkOk_by (N := NOp) (sc := defScope sOr) (by decide +kernel))
          (fun _ _ _ _ _ => pg_tup rfl (pgs_cons (pg_name (i := 5) scor.nd rfl (Or.inl rfl)) (pgs_cons (pg_name (i := 6) scor.nd rfl (Or.inl rfl)) pgs_nil))) (fun _ _ _ _ _ => pts_nil)
          (fun _ _ _ _ _ => pe_op op_or (pe_call GN hr1 rfl DN.M DN.F.kp DN.B .nil pass0 (pa_cons (pe_fldF (K := K) rfl (pv 0)) (pa_cons (pv 5) pa_nil))) (pe_call GN hr1 rfl DN.M DN.F.kp DN.B .nil pass0 (pa_cons (pe_fldF (K := K) rfl (pv 1)) (pa_cons (pv 6) pa_nil)))))
      (pss_one (ps_ret (pe_make (E := E0) CM GC hr2 rfl TC.mgC Cb .nil pass0 (pa_cons (pe_make (E := E0) FM GF hr2 rfl TC.mgF Fb .nil pass0 (pa_cons (pe_call GR hr rfl DR.M DR.F.kp DR.B .nil pass0 (pa_cons (pv 3) (pa_cons (pv 4) pa_nil))) pa_nil)) pa_nil)))))), ?_⟩
    have oA := gA.lineOk
    have oB := gB.lineOk
    have lA' : (A.map lnC).length = A.length := List.length_map _
    have lB' : (B.map lnC).length = B.length := List.length_map _
    refine ⟨_, rfl, _, _, _, _, _, rfl, .own C, .base (.ins hq TI.cl TI.q1 TI.q2 TI.q3 TI.q4), TI.kFF, _, rfl, iteF ?_⟩
    refine ⟨_, rfl, p, C, dx, _, _, rfl, hp, TC.cl, TC.nR, rsf_rows _, _, rfl, q, C, dy, _, _, rfl, hq, TC.cl, TC.nR, rsf_rows _, R1, R2, refs1, refs2, A.map lnC, B.map lnC, false, rfl, h1, Ea.lead e1, h2, Ea.lead e2, oA, oB, by omega, by omega, fun t Pa Rw prs rws Pl Rl H1 s1 ht hP eP hR eR j jq few => ?_⟩
    have fAB : ((A.map lnC).length + 1) * ((B.map lnC).length + 1) ≤ 11 * 11 := Nat.mul_le_mul (by omega) (by omega)
    refine ⟨t, _, rfl, SqT.of ht, rfl, _, _, rfl, _, _, rfl, rfl, ?_⟩
    have lpr : prs.length = Pl.length := eP.1
    have lns : (numsP (fun a b => a ||| b) A B Pl).length = Pl.length := List.length_map _
    have pair : ∀ k p, Pl[k]? = some p → ∃ a b, p = (some a, some b) ∧ a < A.length ∧ b < B.length := fun k p hk => by
      have hm := List.mem_of_getElem? hk
      have b1 := jq.bt p hm
      have b2 := jq.bd p hm
      obtain ⟨p1, p2⟩ := p
      cases p1 with
      | none => cases b1
      | some a =>
        cases p2 with
        | none => cases b1
        | some b => exact ⟨a, b, rfl, by have := b2.1 a rfl; omega, by have := b2.2 b rfl; omega⟩
    refine ⟨_, rfl, Pa, rfl, ⟨_, SqL.of hP⟩, fun D hD => ?_⟩
    refine lc_same (walk_l (K := K) (a := Pa) (xs := prs)) (by rw [lpr]; exact Nat.le_trans (Nat.le_trans few fAB) (by decide)) hD (fun H' s' => SqL.of (s' _ _ hP)) (natsV (numsP (fun a b => a ||| b) A B Pl)) (by unfold natsV; rw [List.length_map, lns, lpr]) (fun i x y H' Φ Ψ hx hy sm k => ?_) fun H2 s2 hd2 => ?_
    · obtain ⟨c, pr, rfl, hpr, q0⟩ := eP.at_ hx
      obtain ⟨a, b, rfl, ha, hb⟩ := pair i pr hpr
      have q0 : H1 c = some (.tup [.int (a : Int), .int (b : Int)]) := q0
      have ey : y = V.int ((num A a ||| num B b : Nat) : Int) := by
        unfold natsV at hy
        rw [List.getElem?_map, numsP_at hpr] at hy
        cases hy
        rfl
      subst ey
      refine ⟨c, _, rfl, SqT.of (sm _ _ q0), rfl, _, _, rfl, _, _, rfl, rfl, rfl, ?_⟩
      dsimp only [tYes]
      rw [if_pos rfl]
      have sH := s1.trans sm
      refine ⟨_, rfl, p, C, dx, _, _, rfl, sH _ _ hp, TC.cl, TC.nR, rsf_rows _, _, rfl, R1, refs1, A, a, rfl, sH _ _ h1, e1.same sH, gA, ha, ?_⟩
      refine ⟨_, rfl, q, C, dy, _, _, rfl, sH _ _ hq, TC.cl, TC.nR, rsf_rows _, _, rfl, R2, refs2, B, b, rfl, sH _ _ h2, e2.same sH, gB, hb, _, _, rfl, rfl, ?_⟩
      have e4 := (or4 (gA.num_lt ha) (gB.num_lt hb)).1
      have := k H' fun _ _ e => e
      rw [← e4] at this
      exact this
    have nok : NOk Rl (numsP (fun a b => a ||| b) A B Pl) := by
      refine ⟨j.one, by rw [lns, j.len], JK.full_join j jq (gA.full) (gB.full), fun x hx => ?_⟩
      obtain ⟨k, hk, rfl⟩ := List.getElem_of_mem hx
      rw [lns] at hk
      obtain ⟨a, b, e, ha, hb⟩ := pair k _ (List.getElem?_eq_getElem hk)
      have e5 := numsP_at (op := fun a b => a ||| b) (A := A) (B := B) (k := k) (Pl := Pl) (by rw [List.getElem?_eq_getElem hk, e])
      rw [(List.getElem?_eq_some_iff.mp e5).2]
      exact (or4 (gA.num_lt ha) (gB.num_lt hb)).2
    have hlen := j.len
    refine ⟨_, rfl, _, rfl, Rw, D, .l, rws, Rl, _, rfl, SqL.of (s2 _ _ hR), Ea.leadL (eR.same s2), hd2, nok, by omega, fun L' refs' H3 s3 _ hL' hE' => ?_⟩
    have ll := JK.leastC_len nok
    have lr : refs'.length = (leastC Rl (numsP (fun a b => a ||| b) A B Pl)).length := hE'.1
    refine fun q dq nq ndq neq => mk_found (E' := E) hL' hE' (by omega) nq ndq neq fun H4 T2 s4 hq2 hT2 => ⟨rfl, ?_⟩
    refine fun x dx' nx ndx nex => mk_setF hq2 hT2 (hE'.same s4) nx ndx nex fun H5 s5 h5 => ⟨rfl, ?_⟩
    exact kk x _ H5 ((((s1.trans s2).trans s3).trans s4).trans s5) (JK.xc_join j nok fun k a b hk => numsP_at hk) (okC_least nok) (by omega) h5
theorem scInv : FnScope NInv ["self"] (defScope sInv) := ⟨rfl, rfl, rfl, by decide +kernel, rfl, by decide +kernel, by decide +kernel⟩
theorem ok_inv {f fC fF fR fN : Addr} {fd dC dF dR dN : FuncData} (F : Fun K "__invert__" "Claim.__invert__" sInv f fd) (T : Txt K mg) (TV : TxtV K mg) (TC : TxtC K mg C Fo) (TF : TxtF K Fo) (L : LibF K mg f1 f2 f3 f4 f5 f6 f7 d1 d2 d3 d4 d5 d6 d7) (DR : Df K mg "_least_rows" sLR fR dR ["rows", "numbers"]) (DN : Df K mg "_number" sNum fN dN ["rows", "state"])
    (CI : Fun K "__init__" "Claim.__init__" sInit fC dC) (CM : Mk K C fC) (Cb : Binds K dC ["self", "rows"] []) (FI : Fun K "__init__" "Found.__init__" sFInit fF dF) (FM : Mk K Fo fF) (Fb : Binds K dF ["self", "rows"] []) : FnOk P w K mg base CX0 6 f fd ["self"] (spInv C) := by
  have GR : FnOk P w K mg base CX0 5 fR dR ["rows", "numbers"] (spLR K) := ok_lr DR.F T TV L
  have GN : FnOk P w K mg base CX0 1 fN dN ["rows", "state"] spNum := ok_num DN.F TV
  have GC : FnOk P w K mg base CX0 1 fC dC ["self", "rows"] (spInitF C Fo) := ok_initF CI T TC TF
  have GF : FnOk P w K mg base CX0 1 fF dF ["self", "rows"] (spFInit Fo) := ok_finit FI T TF
  obtain ⟨t1, hLast⟩ := TV.last
  obtain ⟨t2, hOther⟩ := TV.other
  refine F.ok scInv (fun vs H Q E h => ?_) (fun cdv A0 outer s H vs Q E hr h => ?_)
  · obtain ⟨p, _, rfl, _⟩ := h
    rfl
  · obtain ⟨p, A, rfl, ⟨dx, R1, refs1, hp, h1, e1⟩, gA, lA, kk⟩ := h
    have hr1 : Room 1 _ := hr.mono (by decide)
    have hr2 : Room 2 _ := hr.mono (by decide)
    refine ⟨_, pss_cons (ps_setLc (i := 1) (own := [("state", 2)]) (g := gName 2) (tt := tYes) (by rfl) scInv.nd rfl rfl (sw_true rfl rfl rfl (by decide +kernel)) (pi_range1 (by rfl) T.range_ (pa_cons (pe_callB call_len_seq (by rfl) T.len_ PySem.boot_len (pa_cons (pe_fld (pv 0) rfl) pa_nil)) pa_nil)) (blkOk_by (N := NInv) (sc := defScope sInv) (by decide +kernel))
          (fun _ _ _ _ _ => pg_name (i := 2) scInv.nd rfl (Or.inl rfl)) (fun _ _ _ _ _ => pts_nil)
          (fun _ _ _ _ _ => pe_call GN hr1 rfl DN.M DN.F.kp DN.B .nil pass0 (pa_cons (pe_fldF (K := K) rfl (pv 0)) (pa_cons (pv 2) pa_nil))))
      (pss_one (ps_ret (pe_make (E := E0) CM GC hr2 rfl TC.mgC Cb .nil pass0 (pa_cons (pe_make (E := E0) FM GF hr2 rfl TC.mgF Fb .nil pass0 (pa_cons (pe_call GR hr rfl DR.M DR.F.kp DR.B .nil pass0 (pa_cons (pe_fld (pv 0) rfl) (pa_cons (pe_lc (own := [("number", 3)]) (g := gName 3) (tt := tYes) (by rfl) scInv.nd (pi_list (pv 1)) (blkOk_by (N := NInv) (sc := defScope sInv) (by decide +kernel))
          (fun _ _ _ _ _ => pg_name (i := 3) scInv.nd rfl (Or.inl rfl)) (fun _ _ _ _ _ => pts_nil)
          (fun _ _ _ _ _ => pe_op op_sub (pe_op op_or (pe_glob (v := .int 1) rfl hLast ⟨_, rfl⟩) (pe_glob (v := .int 2) rfl hOther ⟨_, rfl⟩)) (pv 3))) pa_nil))) pa_nil)) pa_nil)))), ?_⟩
    have hlr : refs1.length = A.length := e1.1
    have lA' : (A.map lnC).length = A.length := List.length_map _
    refine ⟨_, rfl, p, C, dx, _, _, rfl, hp, TC.cl, TC.nR, rsf_rows _, R1, _, rfl, .inr (SqT.of h1), (A.length : Int), congrArg (fun z : Nat => [V.int (z : Int)]) hlr, by omega, by omega, fun D hD => ?_⟩
    have hnt : (((A.length : Nat) : Int)).toNat = A.length := Int.toNat_natCast _
    rw [hnt]
    refine lc_range (n := A.length) (fun i H' => Same H H' ∧ H' D = some (.lst (natsV ((List.range i).map (num A))))) ?_ ?_ ?_
    · exact ⟨new_ hD, upd_same⟩
    · rintro i H1 hi ⟨s1, hd⟩
      refine ⟨rfl, ?_⟩
      dsimp only [tYes]
      rw [if_pos rfl]
      refine ⟨_, rfl, p, C, dx, _, _, rfl, s1 _ _ hp, TC.cl, TC.nR, rsf_rows _, _, rfl, R1, refs1, A, i, congrArg (fun z => [V.ref R1, V.int z]) (Int.zero_add _), s1 _ _ h1, e1.same s1, gA, hi, ?_⟩
      refine ⟨_, hd, ?_, fun c o e => ?_, ?_⟩
      · unfold natsV
        rw [List.length_map, List.length_map, List.length_range]
        exact Nat.lt_of_lt_of_le (by omega : i < 122) (by decide)
      · rw [upd_ne (ne_of_none e hD)]
        exact s1 _ _ e
      · rw [upd_same, List.range_succ]
        unfold natsV
        simp
    rintro H1 ⟨s1, hd1⟩
    generalize hns : (List.range A.length).map (num A) = ns at hd1
    have lns : ns.length = A.length := by rw [← hns, List.length_map, List.length_range]
    have nlt : ∀ x ∈ ns, x < 4 := fun x hx => by
      rw [← hns] at hx
      obtain ⟨i, hi, rfl⟩ := List.mem_map.mp hx
      exact gA.num_lt (List.mem_range.mp hi)
    refine ⟨_, rfl, p, C, dx, _, _, rfl, s1 _ _ hp, TC.cl, TC.nR, rsf_rows _, ?_⟩
    refine ⟨_, rfl, D, rfl, ⟨_, SqL.of hd1⟩, fun D2 hD2 => ?_⟩
    have lnv : (natsV ns).length = ns.length := by unfold natsV; exact List.length_map _
    refine lc_same (walk_l (K := K) (a := D) (xs := natsV ns)) (by rw [lnv, lns]; exact Nat.le_trans lA (by decide)) hD2 (fun H' s' => SqL.of (s' _ _ hd1)) (natsV (ns.map fun x => 3 - x)) (by unfold natsV; rw [List.length_map, List.length_map, List.length_map]) (fun i x y H' Φ Ψ hx hy sm k => ?_) fun H2 s2 hd2 => ?_
    · unfold natsV at hx hy
      rw [List.getElem?_map, Option.map_eq_some_iff] at hx
      obtain ⟨x, hx, rfl⟩ := hx
      rw [List.getElem?_map, List.getElem?_map, hx] at hy
      cases hy
      have hx4 := nlt x (List.mem_of_getElem? hx)
      refine ⟨rfl, ?_⟩
      dsimp only [tYes]
      rw [if_pos rfl]
      refine ⟨_, _, rfl, rfl, _, rfl, _, _, rfl, rfl, ?_⟩
      have this : Φ (V.int ((3 - x : Nat) : Int)) H' := k H' fun _ _ e => e
      have e3 : Builtin.bitOr 1 2 - (x : Int) = ((3 - x : Nat) : Int) := by
        have : Builtin.bitOr 1 2 = 3 := by decide +kernel
        rw [this]
        omega
      rw [← e3] at this
      exact this
    have nok : NOk (A.map lnC) (ns.map fun x => 3 - x) := ⟨by rw [lA']; exact gA.one, by rw [List.length_map, lns, lA'], gA.full, fun x hx => by
      obtain ⟨y, _, rfl⟩ := List.mem_map.mp hx
      omega⟩
    refine ⟨R1, D2, .t, refs1, A.map lnC, _, rfl, SqT.of (s2 _ _ (s1 _ _ h1)), Ea.lead ((e1.same s1).same s2), hd2, nok, by omega, fun L' refs' H3 s3 _ hL' hE' => ?_⟩
    have ll := JK.leastC_len nok
    have lr : refs'.length = (leastC (A.map lnC) (ns.map fun x => 3 - x)).length := hE'.1
    refine fun q dq nq ndq neq => mk_found (E' := E) hL' hE' (by omega) nq ndq neq fun H4 T2 s4 hq2 hT2 => ⟨rfl, ?_⟩
    refine fun x dx' nx ndx nex => mk_setF hq2 hT2 (hE'.same s4) nx ndx nex fun H5 s5 h5 => ⟨rfl, ?_⟩
    refine kk x _ H5 ((((s1.trans s2).trans s3).trans s4).trans s5) (JK.xc_one (op := fun a => 3 - a) nok (fun k hk => ?_) gA.lineOk) (okC_least nok) (by omega) h5
    rw [List.getElem?_map, ← hns, List.getElem?_map, List.getElem?_range hk]
    rfl
end
end PA

set_option maxHeartbeats 8000000
namespace PA
open PySem L2 RZ
open C8 (pss_cut tCut)
abbrev sPick : Stmt := top 38
def spPick : Sp := fun vs H Q _ => ∃ (a l L : Addr) (n : Nat) (xs : List V), vs = [.ref a, .ref L] ∧ StreamAt H a l n ∧ n ≤ 20000 ∧ H L = some (.lst xs) ∧ L ≠ a ∧ L ≠ l ∧ 1 ≤ xs.length ∧ xs.length ≤ 48 ∧
  ∀ (i : Nat) (x : V) (H' : Hp), xs[i]? = some x → StreamAt H' a l (n + 1) → Keep a l H H' → Q x H'
section
variable {P : Program} {w : World} {K : PySem.W.Frag} {mg : Str → Option Value} {base : Heap} {C : Addr}
theorem scPick : FnScope ["_law_stream", "_law_some"] ["_law_stream", "_law_some"] (defScope sPick) := ⟨rfl, rfl, rfl, by decide +kernel, rfl, by decide +kernel, by decide +kernel⟩
theorem ok_pick {f g : Addr} {fd gd : FuncData} (F : Fun K "_law_pick" "_law_pick" sPick f fd) (T : Txt K mg) (D : Df K mg "_law_draw" sDraw g gd ["_law_stream", "_law_many"]) : FnOk P w K mg base CX0 2 f fd ["_law_stream", "_law_some"] spPick := by
  have G : FnOk P w K mg base CX0 1 g gd ["_law_stream", "_law_many"] spDraw := ok_draw D.F T
  refine F.ok scPick (fun vs H Q E h => ?_) (fun cdv A outer s H vs Q E hr h => ?_)
  · obtain ⟨a, l, L, n, _, rfl, _⟩ := h
    rfl
  · obtain ⟨a, l, L, n, xs, rfl, S0, hn, hL, La, Ll, h1, h48, kk⟩ := h
    refine ⟨_, pss_one (ps_ret (pe_ix ix_list (pv 1) (pe_call G hr rfl D.M D.F.kp D.B .nil pass0 (pa_cons (pv 0) (pa_cons (pe_callB call_len_seq (by rfl) T.len_ PySem.boot_len (pa_cons (pv 1) pa_nil)) pa_nil))) (fun _ _ => rfl))), ?_⟩
    refine ⟨_, rfl, _, rfl, _, rfl, L, xs, rfl, .inl (SqL.of hL), a, l, n, _, rfl, S0, by omega, by omega, sm48 (by omega) (by omega), fun r H1 r0 r1 S1 kp1 => ?_⟩
    have hi : r.toNat < xs.length := by omega
    have hx : xs[r.toNat]? = some xs[r.toNat] := List.getElem?_eq_getElem hi
    have ha := atI_nat hx
    rw [Int.toNat_of_nonneg r0] at ha
    exact ⟨L, xs, r, _, rfl, rfl, SqL.of (kp1 _ _ La Ll hL), ha, kk _ _ H1 hx S1 kp1⟩
end
end PA

set_option maxHeartbeats 8000000
namespace PA
open PySem L2 RZ
open C8 (pss_cut tCut)
abbrev sAl : Stmt := top 42
abbrev sDue : Stmt := top 43
abbrev sMC : Stmt := top 41
def b1 (n : Nat) : Bool := n == 1 || n == 3
def b2 (n : Nat) : Bool := n == 2 || n == 3
theorem in1 {n : Nat} (h : n < 4) : inV (.str (vt n)) [V.str "last", .str "free"] = b1 n := by
  rcases (by omega : n = 0 ∨ n = 1 ∨ n = 2 ∨ n = 3) with rfl | rfl | rfl | rfl <;> decide +kernel
theorem in2 {n : Nat} (h : n < 4) : inV (.str (vt n)) [V.str "other", .str "free"] = b2 n := by
  rcases (by omega : n = 0 ∨ n = 1 ∨ n = 2 ∨ n = 3) with rfl | rfl | rfl | rfl <;> decide +kernel
theorem and_b {x y : Nat} (hx : x < 4) (hy : y < 4) : b1 (x &&& y) = (b1 x && b1 y) ∧ b2 (x &&& y) = (b2 x && b2 y) := by
  rcases (by omega : x = 0 ∨ x = 1 ∨ x = 2 ∨ x = 3) with rfl | rfl | rfl | rfl <;> rcases (by omega : y = 0 ∨ y = 1 ∨ y = 2 ∨ y = 3) with rfl | rfl | rfl | rfl <;> exact ⟨rfl, rfl⟩
theorem or_b {x y : Nat} (hx : x < 4) (hy : y < 4) : b1 (x ||| y) = (b1 x || b1 y) ∧ b2 (x ||| y) = (b2 x || b2 y) := by
  rcases (by omega : x = 0 ∨ x = 1 ∨ x = 2 ∨ x = 3) with rfl | rfl | rfl | rfl <;> rcases (by omega : y = 0 ∨ y = 1 ∨ y = 2 ∨ y = 3) with rfl | rfl | rfl | rfl <;> exact ⟨rfl, rfl⟩
theorem not_b {x : Nat} (hx : x < 4) : b1 (3 - x) = !b1 x ∧ b2 (3 - x) = !b2 x := by
  rcases (by omega : x = 0 ∨ x = 1 ∨ x = 2 ∨ x = 3) with rfl | rfl | rfl | rfl <;> exact ⟨rfl, rfl⟩
def bb (n : Nat) : List V := [.bl (b1 n), .bl (b2 n)]
def spAl : Sp := fun vs H Q _ => ∃ n : Nat, vs = [.str (vt n)] ∧ n < 4 ∧ ∀ t H', Same H H' → H' t = some (.tup (bb n)) → Q (.ref t) H'
/-- the way a word stands for -/
def Way (wy : Str) (op : Nat → Nat → Nat) : Prop := (wy = "and" ∧ op = fun a b => a &&& b) ∨ (wy = "or" ∧ op = fun a b => a ||| b) ∨ (wy = "not" ∧ op = fun a _ => 3 - a)
def spDue : Sp := fun vs H Q _ => ∃ (x y : Nat) (wy : Str) (op : Nat → Nat → Nat), vs = [.str (vt x), .str (vt y), .str wy] ∧ x < 4 ∧ y < 4 ∧ Way wy op ∧ ∀ t H', Same H H' → H' t = some (.tup (bb (op x y))) → Q (.ref t) H'
def spMC : Sp := fun vs H Q _ => ∃ (a l : Addr) (n : Nat) (most : Int), vs = [.ref a, .int most] ∧ StreamAt H a l n ∧ n ≤ 10000 ∧ 1 ≤ most ∧ most ≤ 48 ∧
  ∀ (L : Addr) (refs : List V) (A : List Cr) (n' : Nat) (H' : Hp), H' L = some (.lst refs) → H L = none → L ≠ a → L ≠ l → Ea H' isCr refs A → GoodC A → (A.length : Int) ≤ most → StreamAt H' a l n' → n' ≤ n + 200 → Keep a l H H' → Q (.ref L) H'
section
variable {P : Program} {w : World} {K : PySem.W.Frag} {mg : Str → Option Value} {base : Heap} {C Fo : Addr}
theorem scAl : FnScope ["_law_word"] ["_law_word"] (defScope sAl) := ⟨rfl, rfl, rfl, by decide +kernel, rfl, by decide +kernel, by decide +kernel⟩
theorem ok_al {f : Addr} {fd : FuncData} (F : Fun K "_law_allowed" "_law_allowed" sAl f fd) : FnOk P w K mg base CX0 1 f fd ["_law_word"] spAl := by
  refine F.ok scAl (fun vs H Q E h => ?_) (fun cdv A0 outer s H vs Q E hr h => ?_)
  · obtain ⟨n, rfl, _⟩ := h
    rfl
  · obtain ⟨n, rfl, hn, kk⟩ := h
    refine ⟨_, pss_one (ps_ret (pe_tup (pa_cons (pe_cmpR op_in_seq (pv 0) (pe_tup (pa_cons pe_str (pa_cons pe_str pa_nil))) rfl) (pa_cons (pe_cmpR op_in_seq (pv 0) (pe_tup (pa_cons pe_str (pa_cons pe_str pa_nil))) rfl) pa_nil)))), ?_⟩
    refine ⟨_, rfl, by show 2 ≤ sizeLine; decide, fun t1 ht1 => ?_⟩
    have e1 := new_ (o := .tup [V.str "last", .str "free"]) ht1
    refine ⟨t1, _, rfl, .inr (SqT.of upd_same), rfl, rfl, ?_⟩
    refine ⟨_, rfl, by show 2 ≤ sizeLine; decide, fun t2 ht2 => ?_⟩
    have e2 := new_ (o := .tup [V.str "other", .str "free"]) ht2
    refine ⟨t2, _, rfl, .inr (SqT.of upd_same), rfl, rfl, by show 2 ≤ sizeLine; decide, fun t3 ht3 => ?_⟩
    have e3 := new_ (o := .tup [V.bl (inV (.str (vt n)) [V.str "last", .str "free"]), .bl (inV (.str (vt n)) [V.str "other", .str "free"])]) ht3
    refine kk t3 _ ((e1.trans e2).trans e3) ?_
    have := in1 hn
    have h2 := in2 hn
    show (upd _ t3 (HO.tup [V.bl (inV (.str (vt n)) [V.str "last", .str "free"]), .bl (inV (.str (vt n)) [V.str "other", .str "free"])])) t3 = some (.tup [.bl (b1 n), .bl (b2 n)])
    rw [upd_same, this, h2]
theorem scDue : FnScope ["_law_low", "_law_high", "_law_way", "_law_one", "_law_two"] ["_law_low", "_law_high", "_law_way"] (defScope sDue) := ⟨rfl, rfl, rfl, by decide +kernel, rfl, by decide +kernel, by decide +kernel⟩
theorem ok_due {f g : Addr} {fd gd : FuncData} (F : Fun K "_law_due" "_law_due" sDue f fd) (D : Df K mg "_law_allowed" sAl g gd ["_law_word"]) : FnOk P w K mg base CX0 2 f fd ["_law_low", "_law_high", "_law_way"] spDue := by
  have G : FnOk P w K mg base CX0 1 g gd ["_law_word"] spAl := ok_al D.F
  refine F.ok scDue (fun vs H Q E h => ?_) (fun cdv A0 outer s H vs Q E hr h => ?_)
  · obtain ⟨x, y, wy, op, rfl, _⟩ := h
    rfl
  · obtain ⟨x, y, wy, op, rfl, hx, hy, way, kk⟩ := h
    refine ⟨_, pss_cons (ps_par (i := 3) (j := 4) (by rfl) scDue.nd rfl rfl (by decide) rfl rfl (pa_cons (pe_call G hr rfl D.M D.F.kp D.B .nil pass0 (pa_cons (pv 0) pa_nil)) (pa_cons (pe_call G hr rfl D.M D.F.kp D.B .nil pass0 (pa_cons (pv 1) pa_nil)) pa_nil)) (by rfl))
      (pss_cons (ps_if (pt_cmpR op_eq (pv 2) pe_str (nomark _)) (pss_one (ps_ret (pe_tup (pa_cons (pe_and (pe_ix ix_tup (pv 3) pe_int (fun _ _ => rfl)) (pe_one (pe_ix ix_tup (pv 4) pe_int (fun _ _ => rfl)))) (pa_cons (pe_and (pe_ix ix_tup (pv 3) pe_int (fun _ _ => rfl)) (pe_one (pe_ix ix_tup (pv 4) pe_int (fun _ _ => rfl)))) pa_nil))))) pss_nil)
      (pss_cons (ps_if (pt_cmpR op_eq (pv 2) pe_str (nomark _)) (pss_one (ps_ret (pe_tup (pa_cons (pe_or (pe_ix ix_tup (pv 3) pe_int (fun _ _ => rfl)) (pe_one (pe_ix ix_tup (pv 4) pe_int (fun _ _ => rfl)))) (pa_cons (pe_or (pe_ix ix_tup (pv 3) pe_int (fun _ _ => rfl)) (pe_one (pe_ix ix_tup (pv 4) pe_int (fun _ _ => rfl)))) pa_nil))))) pss_nil)
      (pss_one (ps_ret (pe_tup (pa_cons (pe_not (pe_ix ix_tup (pv 3) pe_int (fun _ _ => rfl))) (pa_cons (pe_not (pe_ix ix_tup (pv 3) pe_int (fun _ _ => rfl))) pa_nil))))))), ?_⟩
    refine ⟨_, rfl, x, rfl, hx, fun t1 H1 s1 h1 => ⟨_, rfl, y, rfl, hy, fun t2 H2 s2 h2 => ⟨_, _, rfl, ?_⟩⟩⟩
    have s12 := s1.trans s2
    have h1 : H2 t1 = some (.tup [.bl (b1 x), .bl (b2 x)]) := s2 _ _ h1
    have h2 : H2 t2 = some (.tup [.bl (b1 y), .bl (b2 y)]) := h2
    rcases way with ⟨rfl, rfl⟩ | ⟨rfl, rfl⟩ | ⟨rfl, rfl⟩
    · refine ⟨_, rfl, rfl, _, rfl, ifD_yes rfl ?_⟩
      have fin : ∀ t, H2 t = none → Q (.ref t) (upd H2 t (.tup [.bl (b1 x && b1 y), .bl (b2 x && b2 y)])) := fun t ht => by
        refine kk t _ (s12.trans (new_ ht)) ?_
        obtain ⟨a1, a2⟩ := and_b hx hy
        show _ = some (HO.tup [.bl (b1 (x &&& y)), .bl (b2 (x &&& y))])
        rw [upd_same, a1, a2]
      generalize b1 x = p1 at h1 fin
      generalize b2 x = p2 at h1 fin
      generalize b1 y = q1 at h2 fin
      generalize b2 y = q2 at h2 fin
      cases p1 <;> cases p2
      all_goals
        refine ⟨_, rfl, t1, _, 0, _, rfl, rfl, SqT.of h1, rfl, _, rfl, ?_⟩
        first | refine iteF ?_ | refine iteT ⟨_, rfl, t2, _, 0, _, rfl, rfl, SqT.of h2, rfl, ?_⟩
        refine ⟨_, rfl, t1, _, 1, _, rfl, rfl, SqT.of h1, rfl, _, rfl, ?_⟩
        first | refine iteF ?_ | refine iteT ⟨_, rfl, t2, _, 1, _, rfl, rfl, SqT.of h2, rfl, ?_⟩
        exact ⟨by show 2 ≤ sizeLine; decide, fun t ht => fin t ht⟩
    · refine ⟨_, rfl, rfl, _, rfl, ifD_no (by decide +kernel) ⟨_, rfl, rfl, _, rfl, ifD_yes rfl ?_⟩⟩
      have fin : ∀ t, H2 t = none → Q (.ref t) (upd H2 t (.tup [.bl (b1 x || b1 y), .bl (b2 x || b2 y)])) := fun t ht => by
        refine kk t _ (s12.trans (new_ ht)) ?_
        obtain ⟨a1, a2⟩ := or_b hx hy
        show _ = some (HO.tup [.bl (b1 (x ||| y)), .bl (b2 (x ||| y))])
        rw [upd_same, a1, a2]
      generalize b1 x = p1 at h1 fin
      generalize b2 x = p2 at h1 fin
      generalize b1 y = q1 at h2 fin
      generalize b2 y = q2 at h2 fin
      cases p1 <;> cases p2
      all_goals
        refine ⟨_, rfl, t1, _, 0, _, rfl, rfl, SqT.of h1, rfl, _, rfl, ?_⟩
        first | refine iteT ?_ | refine iteF ⟨_, rfl, t2, _, 0, _, rfl, rfl, SqT.of h2, rfl, ?_⟩
        refine ⟨_, rfl, t1, _, 1, _, rfl, rfl, SqT.of h1, rfl, _, rfl, ?_⟩
        first | refine iteT ?_ | refine iteF ⟨_, rfl, t2, _, 1, _, rfl, rfl, SqT.of h2, rfl, ?_⟩
        exact ⟨by show 2 ≤ sizeLine; decide, fun t ht => fin t ht⟩
    · refine ⟨_, rfl, rfl, _, rfl, ifD_no (by decide +kernel) ⟨_, rfl, rfl, _, rfl, ifD_no (by decide +kernel) ?_⟩⟩
      refine ⟨_, rfl, t1, _, 0, _, rfl, rfl, SqT.of h1, rfl, _, rfl, ?_⟩
      refine ⟨_, rfl, t1, _, 1, _, rfl, rfl, SqT.of h1, rfl, _, rfl, by show 2 ≤ sizeLine; decide, fun t ht => ?_⟩
      refine kk t _ (s12.trans (new_ ht)) ?_
      obtain ⟨a1, a2⟩ := not_b hx
      show _ = some (HO.tup [.bl (b1 (3 - x)), .bl (b2 (3 - x))])
      rw [upd_same, a1, a2]
abbrev NMC : List Str := ["_law_stream", "_law_most", "_law_size", "_law_found", "_law_k", "_law_low", "_law_high", "_law_word"]
theorem scMC : FnScope NMC ["_law_stream", "_law_most"] (defScope sMC) := ⟨rfl, rfl, rfl, by decide +kernel, rfl, by decide +kernel, by decide +kernel⟩
theorem ok_mc {f g1 g2 : Addr} {fd gd1 gd2 : FuncData} (F : Fun K "_law_m_claim" "_law_m_claim" sMC f fd) (T : Txt K mg) (D1 : Df K mg "_law_draw" sDraw g1 gd1 ["_law_stream", "_law_many"]) (D2 : Df K mg "_law_pick" sPick g2 gd2 ["_law_stream", "_law_some"]) : FnOk P w K mg base CX0 3 f fd ["_law_stream", "_law_most"] spMC := by
  have G1 : FnOk P w K mg base CX0 1 g1 gd1 ["_law_stream", "_law_many"] spDraw := ok_draw D1.F T
  have G2 : FnOk P w K mg base CX0 2 g2 gd2 ["_law_stream", "_law_some"] spPick := ok_pick D2.F T D1
  refine F.ok scMC (fun vs H Q E h => ?_) (fun cdv A0 outer s H vs Q E hr h => ?_)
  · obtain ⟨a, l, _, _, rfl, _⟩ := h
    rfl
  · obtain ⟨a, l, n, most, rfl, S0, hn, m1, m48, kk⟩ := h
    have hr1 : Room 1 _ := hr.mono (by decide)
    refine ⟨_, pss_cons (ps_par (i := 2) (j := 3) (by rfl) scMC.nd rfl rfl (by decide) rfl rfl (pa_cons (pe_op op_add pe_int (pe_call G1 hr1 rfl D1.M D1.F.kp D1.B .nil pass0 (pa_cons (pv 0) (pa_cons (pv 1) pa_nil)))) (pa_cons (pe_lst pa_nil) pa_nil)) (by rfl))
      (pss_cons (ps_for PassesOwn.never rfl (pi_range1 (by rfl) T.range_ (pa_cons (pv 2) pa_nil)) (pg_name (i := 4) scMC.nd rfl (Or.inl rfl))
        (pss_cons (ps_par (i := 5) (j := 6) (by rfl) scMC.nd rfl rfl (by decide) rfl rfl (pa_cons (pe_call G1 hr1 rfl D1.M D1.F.kp D1.B .nil pass0 (pa_cons (pv 0) (pa_cons (pv 2) pa_nil))) (pa_cons (pe_call G1 hr1 rfl D1.M D1.F.kp D1.B .nil pass0 (pa_cons (pv 0) (pa_cons (pv 2) pa_nil))) pa_nil)) (by rfl))
        (pss_cons (ps_set (i := 7) scMC.nd rfl (Or.inl rfl) (pe_call G2 hr rfl D2.M D2.F.kp D2.B .nil pass0 (pa_cons (pv 0) (pa_cons (pe_lst (pa_cons pe_str (pa_cons pe_str (pa_cons pe_str (pa_cons pe_str (pa_cons pe_str (pa_cons pe_str (pa_cons pe_str (pa_cons pe_str pa_nil))))))))) pa_nil))))
        (pss_one (ps_expr (pe_bm PySem.F.plainAttrs_list PySem.F.slot_list_append PySem.F.type_list_append mt_append (pv 3) (pa_cons (pe_tup (pa_cons (pv 5) (pa_cons (pv 6) (pa_cons (pv 7) pa_nil)))) pa_nil)))))))
      (pss_one (ps_ret (pv 3)))), ?_⟩
    refine ⟨_, rfl, _, rfl, a, l, n, most, rfl, S0, by omega, by omega, sm48 (by omega) (by omega), fun r H1 r0 r1 S1 k1 => ⟨_, _, rfl, rfl, ?_⟩⟩
    refine ⟨Nat.zero_le _, fun L hL => ⟨_, _, rfl, ?_⟩⟩
    obtain ⟨sz, hsz⟩ : ∃ sz : Nat, 1 + r = (sz : Int) := ⟨(1 + r).toNat, (Int.toNat_of_nonneg (by omega)).symm⟩
    have sz1 : 1 ≤ sz := by omega
    have sz48 : sz ≤ 48 := by omega
    obtain ⟨La, Ll⟩ := S1.ne hL
    have eL := new_ (o := .lst []) hL
    refine ⟨_, rfl, (sz : Int), congrArg (fun z => [V.int z]) hsz, by omega, by omega, ?_⟩
    rw [show ((sz : Int)).toNat = sz from Int.toNat_natCast _]
    refine for_range (n := sz) (fun i σ' H' => ∃ x4 x5 x6 x7, ∃ refs, ∃ A : List Cr, ∃ m, σ' = [some (V.ref a), some (.int most), some (.int (1 + r)), some (.ref L), x4, x5, x6, x7] ∧ m ≤ n + 1 + 3 * i ∧ StreamAt H' a l m ∧ Keep a l H1 H' ∧ H' L = some (.lst refs) ∧ Ea H' isCr refs A ∧ A.length = i ∧ ∀ r ∈ A, COk sz r) ?_ ?_ ?_
    · exact ⟨_, _, _, _, [], [], n + 1, rfl, by omega, S1.same eL, Keep.of eL, upd_same, Ea.nil, rfl, fun r h => by cases h⟩
    · rintro i _ H2 hi ⟨x4, x5, x6, x7, refs, A, m, rfl, hm, S2, k2, hL2, eA, hAl, hAo⟩
      refine ⟨_, rfl, _, rfl, a, l, m, (sz : Int), by rw [hsz]; rfl, S2, by omega, by omega, sm48 (by omega) (by omega), fun u H3 u0 u1 S3 k3 => ?_⟩
      refine ⟨_, rfl, _, rfl, a, l, m + 1, (sz : Int), by rw [hsz]; rfl, S3, by omega, by omega, sm48 (by omega) (by omega), fun v H4 v0 v1 S4 k4 => ⟨_, _, rfl, ?_⟩⟩
      refine ⟨_, rfl, by show 8 ≤ sizeLine; decide, fun Pl hPl => ?_⟩
      have eP := new_ (o := .lst [V.str "free", .str "last", .str "free", .str "other", .str "free", .str "none", .str "last", .str "free"]) hPl
      obtain ⟨Pa, Pl_⟩ := S4.ne hPl
      refine ⟨a, l, Pl, _, _, rfl, S4.same eP, by omega, upd_same, Pa, Pl_, by show 1 ≤ 8; decide, by show 8 ≤ 48; decide, fun jj x H5 hx S5 k5 => ?_⟩
      obtain ⟨z, rfl, hz⟩ : ∃ z, x = .str (vt z) ∧ z < 4 := by
        match jj, hx with
        | 0, hx => cases hx; exact ⟨3, rfl, by decide⟩
        | 1, hx => cases hx; exact ⟨1, rfl, by decide⟩
        | 2, hx => cases hx; exact ⟨3, rfl, by decide⟩
        | 3, hx => cases hx; exact ⟨2, rfl, by decide⟩
        | 4, hx => cases hx; exact ⟨3, rfl, by decide⟩
        | 5, hx => cases hx; exact ⟨0, rfl, by decide⟩
        | 6, hx => cases hx; exact ⟨1, rfl, by decide⟩
        | 7, hx => cases hx; exact ⟨3, rfl, by decide⟩
        | (q + 8), hx => simp at hx
      have k25 := ((k3.trans k4).trans (Keep.of eP)).trans k5
      have hL5 := k25 _ _ La Ll hL2
      have eA5 := EaKp eA S2 k25
      obtain ⟨u', rfl⟩ : ∃ m : Nat, u = (m : Int) := ⟨u.toNat, (Int.toNat_of_nonneg u0).symm⟩
      obtain ⟨v', rfl⟩ : ∃ m : Nat, v = (m : Int) := ⟨v.toNat, (Int.toNat_of_nonneg v0).symm⟩
      refine ⟨_, rfl, .inl ⟨rfl, _, SqL.of hL5⟩, _, rfl, _, rfl, _, rfl, by show 3 ≤ sizeLine; decide, fun t ht => ?_⟩
      have et := new_ (o := .tup [V.int (u' : Int), .int (v' : Int), .str (vt z)]) ht
      have gt : isCr (upd H5 t (.tup [V.int (u' : Int), .int (v' : Int), .str (vt z)])) t (u', v', z) := upd_same
      have hL6 := et _ _ hL5
      refine ⟨L, refs, _, rfl, rfl, hL6, ?_, _, _, _, _, refs ++ [.ref t], A ++ [(u', v', z)], m + 3, rfl, by omega, (S5.same et).lst hL6 La Ll, ?_, upd_same, ((eA5.same et).imp fun c r q => TupOf.lst q hL6).push (TupOf.lst (f := cv) gt hL6), by rw [List.length_append, hAl]; rfl, ?_⟩
      · rw [eA.1, hAl]
        exact Nat.lt_of_lt_of_le (by omega : i < 49) (by decide)
      · intro c o ca cl e
        rw [upd_ne (ne_of_none e hL)]
        exact et _ _ (k25 _ _ ca cl (k2 _ _ ca cl e))
      · intro r hr'
        rcases List.mem_append.mp hr' with hr' | hr'
        · exact hAo r hr'
        · cases List.mem_singleton.mp hr'
          exact ⟨by dsimp only; omega, by dsimp only; omega, hz⟩
    rintro _ H2 ⟨x4, x5, x6, x7, refs, A, m, rfl, hm, S2, k2, hL2, eA, hAl, hAo⟩
    refine ⟨_, rfl, kk L refs A m H2 hL2 (k1.none La Ll hL) La Ll eA ⟨by omega, by omega, by rw [hAl]; exact hAo⟩ (by omega) S2 (by omega) (k1.trans k2)⟩
end
end PA

set_option maxHeartbeats 8000000
namespace PA
open PySem L2 RZ
open C8 (pss_cut tCut)
open JM (en LineOk)
open JW (Tr At3)
open JK (num lnC XC)
abbrev sExact : Stmt := top 44
abbrev NEx : List Str := ["_law_one", "_law_other", "_law_joint", "_law_way", "_law_waiting", "_law_seen", "_law_at", "_law_left", "_law_right", "_law_both", "_law_step", "_law_after"]
def tv (t : Tr) : List V := [ev t.1, ev t.2.1, .int (t.2.2 : Int)]
abbrev isTr : Hp → Addr → Tr → Prop := TupOf tv
def tk3 (t : Tr) : LKey := [lf t.1, lf t.2.1, .num (t.2.2 : Int)]
theorem tk3_inj {p q : Tr} (h : tk3 p = tk3 q) : p = q := by
  obtain ⟨a, b, c⟩ := p
  obtain ⟨a', b', c'⟩ := q
  simp only [tk3, List.cons.injEq, and_true, Leaf.num.injEq] at h
  obtain ⟨h1, h2, h3⟩ := h
  have h3 : c = c' := by omega
  rw [lf_inj h1, lf_inj h2, h3]
theorem isTr.key {H : Hp} {t : Addr} {p : Tr} (h : isTr H t p) : KeyAt H t (tk3 p) := by
  obtain ⟨a, b, c⟩ := p
  refine ⟨[ev a, ev b, .int (c : Int)], h, .cons ?_ (.cons ?_ (.cons (.inl rfl) .nil))⟩
  · cases a with
    | none => rfl
    | some n => exact .inl rfl
  · cases b with
    | none => rfl
    | some n => exact .inl rfl
structure XS (P : Program) (w : World) (H H' : Hp) (Wa D : Addr) (Wl Sn : List Tr) (wls : List V) (kvs : List DE) : Prop where
  sm : Same H H'
  hW : H' Wa = some (.lst wls)
  eW : Ea H' isTr wls Wl
  hD : H' D = some (DX P w D kvs)
  ka : ∀ p ∈ kvs, KeyAt H' p.2.1 p.1
  em : (kvs.map fun p => (p.1, p.2.2)).map (·.1) = Sn.map tk3
section
variable {P : Program} {w : World} {H H' H2 : Hp} {Wa D : Addr} {Wl Sn : List Tr} {wls : List V} {kvs : List DE}
theorem XS.same (I : XS P w H H' Wa D Wl Sn wls kvs) (s : Same H' H2) : XS P w H H2 Wa D Wl Sn wls kvs :=
  ⟨I.sm.trans s, s _ _ I.hW, I.eW.same s, s _ _ I.hD, fun p hp => (I.ka p hp).kt fun b ys e => s _ _ e, I.em⟩
theorem XS.has (I : XS P w H H' Wa D Wl Sn wls kvs) (q : Tr) : (valV (kvs.map fun p => (p.1, p.2.2)) (tk3 q)).isSome = decide (q ∈ Sn) := by
  rw [val_keys, I.em, Bool.eq_iff_iff, decide_eq_true_iff, decide_eq_true_iff]
  refine ⟨fun h => ?_, fun h => List.mem_map.mpr ⟨q, h, rfl⟩⟩
  obtain ⟨p, hp, e⟩ := List.mem_map.mp h
  rw [← tk3_inj e]
  exact hp
theorem XS.lenK (I : XS P w H H' Wa D Wl Sn wls kvs) : kvs.length = Sn.length := by
  have := congrArg List.length I.em
  rwa [List.length_map, List.length_map, List.length_map] at this
theorem XS.no (I : XS P w H H' Wa D Wl Sn wls kvs) {q : Tr} (h : q ∉ Sn) : valV (kvs.map fun p => (p.1, p.2.2)) (tk3 q) = none := by
  have := I.has q
  rw [decide_eq_false h] at this
  cases hv : valV (kvs.map fun p => (p.1, p.2.2)) (tk3 q) with
  | none => rfl
  | some v => rw [hv] at this; cases this
theorem XS.tkD (I : XS P w H H' Wa D Wl Sn wls kvs) {o : HO} {c : Addr} {ys : List V} (e : H' c = some (.tup ys)) : (upd H' D o) c = some (.tup ys) := by
  rw [upd_ne (ne_of e I.hD (by intro z; cases z))]
  exact e
theorem XS.tkW (I : XS P w H H' Wa D Wl Sn wls kvs) {o : HO} {c : Addr} {ys : List V} (e : H' c = some (.tup ys)) : (upd H' Wa o) c = some (.tup ys) := by
  rw [upd_ne (ne_of e I.hW (by intro z; cases z))]
  exact e
theorem XS.seen (I : XS P w H H' Wa D Wl Sn wls kvs) (nD : H D = none) {q : Tr} {t : Addr} {v : V} (ht : isTr H' t q) : XS P w H (upd H' D (DX P w D (kvs ++ [(tk3 q, t, v)]))) Wa D Wl (Sn ++ [q]) wls (kvs ++ [(tk3 q, t, v)]) := by
  refine ⟨fun c o e => ?_, ?_, I.eW.imp fun c r q => I.tkD q, upd_same, fun p hp => ?_, ?_⟩
  · rw [upd_ne (ne_of_none e nD)]
    exact I.sm _ _ e
  · rw [upd_ne (ne_of I.hW I.hD (by intro z; cases z))]
    exact I.hW
  · rcases List.mem_append.mp hp with hp | hp
    · exact (I.ka p hp).kt fun c ys e => I.tkD e
    · cases List.mem_singleton.mp hp
      exact (isTr.key ht).kt fun c ys e => I.tkD e
  · rw [List.map_append, List.map_append, I.em, List.map_append]
    rfl
theorem XS.app (I : XS P w H H' Wa D Wl Sn wls kvs) (nW : H Wa = none) {q : Tr} {t : Addr} (ht : isTr H' t q) : XS P w H (upd H' Wa (.lst (wls ++ [.ref t]))) Wa D (Wl ++ [q]) Sn (wls ++ [.ref t]) kvs := by
  refine ⟨fun c o e => ?_, upd_same, Ea.push (I.eW.imp fun c r q => I.tkW q) (I.tkW ht), ?_, fun p hp => (I.ka p hp).kt fun c ys e => I.tkW e, I.em⟩
  · rw [upd_ne (ne_of_none e nW)]
    exact I.sm _ _ e
  · rw [upd_ne (ne_of I.hW I.hD (by intro z; cases z)).symm]
    exact I.hD
end
/-- the triples that have come -/
structure TB (A B J : List Ln) (Wl Sn : List Tr) : Prop where
  at_ : ∀ t ∈ Wl, At3 A B J t
  sub : ∀ t ∈ Sn, t ∈ Wl
  nd : Sn.Nodup
  len : Wl.length = 1 + Sn.length
theorem TB.init {A B J : List Ln} : TB A B J [(some 0, some 0, 0)] [] := ⟨fun t h => by rw [List.mem_singleton.mp h]; exact At3.z, fun t h => (List.not_mem_nil h).elim, List.nodup_nil, rfl⟩
theorem TB.add {A B J : List Ln} {Wl Sn : List Tr} (b : TB A B J Wl Sn) {q : Tr} (h : At3 A B J q) (hn : q ∉ Sn) : TB A B J (Wl ++ [q]) (Sn ++ [q]) := by
  refine ⟨fun t ht => ?_, fun t ht => ?_, LF.nodup_snoc b.nd hn, by rw [List.length_append, List.length_append, b.len]; simp; omega⟩
  · rcases List.mem_append.mp ht with ht | ht
    · exact b.at_ t ht
    · rw [List.mem_singleton.mp ht]
      exact h
  · rcases List.mem_append.mp ht with ht | ht
    · exact List.mem_append.mpr (.inl (b.sub t ht))
    · exact List.mem_append.mpr (.inr ht)
theorem TB.few {A B J : List Ln} {Wl Sn : List Tr} (b : TB A B J Wl Sn) (oA : LineOk A) (oB : LineOk B) (oJ : LineOk J) (lA : A.length ≤ 10) (lB : B.length ≤ 10) (lJ : J.length ≤ 121) : Sn.length ≤ 14641 := by
  have h := JW.tr_few oJ.one b.nd fun t ht => (b.at_ t (b.sub t ht)).bd oA oB oJ
  exact Nat.le_trans h (Nat.mul_le_mul (Nat.mul_le_mul (by omega : A.length + 1 ≤ 11) (by omega : B.length + 1 ≤ 11)) lJ)
theorem rd_cr {H : Hp} {refs : List V} {A : List Cr} (hE : Ea H isCr refs A) {i : Nat} (h : i < A.length) (c : Bool) : ∃ (d : Addr) (a b n : Nat), atI refs (i : Int) = some (.ref d) ∧ H d = some (.tup [V.int (a : Int), .int (b : Int), .str (vt n)]) ∧ n = num A i ∧ atI [V.int (a : Int), .int (b : Int), .str (vt n)] (if c = true then 1 else 0) = some (V.int ((if c = true then b else a : Nat) : Int)) ∧ en (A.map lnC) i c = some (if c = true then b else a) := by
  obtain ⟨d, hd, q⟩ := hE.get (List.getElem?_eq_getElem h)
  refine ⟨d, A[i].1, A[i].2.1, A[i].2.2, atI_nat hd, q, (JK.num_at (List.getElem?_eq_getElem h)).symm, ?_, ?_⟩
  · cases c <;> rfl
  · have : (A.map lnC)[i]? = some (lnC A[i]) := by rw [List.getElem?_map, List.getElem?_eq_getElem h]; rfl
    rw [JM.en_at this]
    cases c <;> rfl
def spExact (K : PySem.W.Frag) : Sp := fun vs H Q _ => ∃ (L1 L2 L3 : Addr) (refs1 refs2 refs3 : List V) (A B J : List Cr) (wy : Str) (op : Nat → Nat → Nat), vs = [.ref L1, .ref L2, .ref L3, .str wy] ∧ H L1 = some (.lst refs1) ∧ Ea H isCr refs1 A ∧ H L2 = some (.lst refs2) ∧ Ea H isCr refs2 B ∧ H L3 = some (.tup refs3) ∧ Ea H isCr refs3 J ∧ OkC A ∧ OkC B ∧ OkC J ∧ A.length ≤ 10 ∧ B.length ≤ 10 ∧ J.length ≤ 121 ∧ Way wy op ∧ XC op A B J ∧
  ∀ H', Same H H' → Q (.bl true) H'
section
variable {P : Program} {w : World} {K : PySem.W.Frag} {mg : Str → Option Value} {base : Heap} {C Fo : Addr}
theorem scExact : FnScope NEx ["_law_one", "_law_other", "_law_joint", "_law_way"] (defScope sExact) := ⟨rfl, rfl, rfl, by decide +kernel, rfl, by decide +kernel, by decide +kernel⟩
theorem ok_exact {f g1 g2 : Addr} {fd gd1 gd2 : FuncData} (F : Fun K "_law_exact" "_law_exact" sExact f fd) (T : Txt K mg) (D1 : Df K mg "_law_allowed" sAl g1 gd1 ["_law_word"]) (D2 : Df K mg "_law_due" sDue g2 gd2 ["_law_low", "_law_high", "_law_way"]) : FnOk P w K mg base CX0 3 f fd ["_law_one", "_law_other", "_law_joint", "_law_way"] (spExact K) := by
  have G1 : FnOk P w K mg base CX0 1 g1 gd1 ["_law_word"] spAl := ok_al D1.F
  have G2 : FnOk P w K mg base CX0 2 g2 gd2 ["_law_low", "_law_high", "_law_way"] spDue := ok_due D2.F D1
  refine F.ok scExact (fun vs H Q E h => ?_) (fun cdv A0 outer s H vs Q E hr h => ?_)
  · obtain ⟨L1, L2, L3, _, _, _, _, _, _, wy, op, rfl, _⟩ := h
    rfl
  · obtain ⟨L1, L2, L3, refs1, refs2, refs3, A, B, J, wy, op, rfl, h1, e1, h2, e2, h3, e3, gA, gB, gJ, lA, lB, lJ, way, hx, kk⟩ := h
    have hu := u1 hr.units
    have hr1 : Room 1 _ := hr.mono (by decide)
    refine ⟨_, pss_cons (ps_par3 (i := 4) (j := 5) (l := 6) (by rfl) scExact.nd rfl rfl rfl (by decide) (by decide) (by decide) rfl rfl rfl (pa_cons (pe_lst (pa_cons (pe_tup (pa_cons pe_int (pa_cons pe_int (pa_cons pe_int pa_nil)))) pa_nil)) (pa_cons pe_dnewX (pa_cons pe_int pa_nil))) (by rfl))
      (pss_cons (ps_while PassesOwn.never (pt_cmpR op_lt (pv 6) (pe_callB call_len_seq (by rfl) T.len_ PySem.boot_len (pa_cons (pv 4) pa_nil)) (nomark _))
        (pss_cons (ps_asg (pe_ix ix_list (pv 4) (pv 6) (fun _ _ => rfl)) (pg_tup rfl (pgs_cons (pg_name (i := 7) scExact.nd rfl (Or.inl rfl)) (pgs_cons (pg_name (i := 8) scExact.nd rfl (Or.inl rfl)) (pgs_cons (pg_name (i := 9) scExact.nd rfl (Or.inl rfl)) pgs_nil)))))
        (pss_cons (ps_if (pt_cmpR (op_neD hr.units) (pe_call G1 hr1 rfl D1.M D1.F.kp D1.B .nil pass0 (pa_cons (pe_ix ix_tup (pe_ix ix_tup (pv 2) (pv 9) (fun _ _ => rfl)) pe_int (fun _ _ => rfl)) pa_nil)) (pe_call G2 hr rfl D2.M D2.F.kp D2.B .nil pass0 (pa_cons (pe_ix ix_tup (pe_ix ix_list (pv 0) (pv 7) (fun _ _ => rfl)) pe_int (fun _ _ => rfl)) (pa_cons (pe_ix ix_tup (pe_ix ix_list (pv 1) (pv 8) (fun _ _ => rfl)) pe_int (fun _ _ => rfl)) (pa_cons (pv 3) pa_nil)))) (nomark _)) pss_never pss_nil)
        (pss_cons (ps_for PassesOwn.never rfl (pi_tup (pe_tup (pa_cons pe_int (pa_cons pe_int pa_nil)))) (pg_name (i := 10) scExact.nd rfl (Or.inl rfl))
          (pss_cons (ps_set (i := 11) scExact.nd rfl (Or.inl rfl) (pe_tup (pa_cons (pe_ix ix_tup (pe_ix ix_list (pv 0) (pv 7) (fun _ _ => rfl)) (pv 10) (fun _ _ => rfl)) (pa_cons (pe_ix ix_tup (pe_ix ix_list (pv 1) (pv 8) (fun _ _ => rfl)) (pv 10) (fun _ _ => rfl)) (pa_cons (pe_ix ix_tup (pe_ix ix_tup (pv 2) (pv 9) (fun _ _ => rfl)) (pv 10) (fun _ _ => rfl)) pa_nil)))))
          (pss_one (ps_if (pt_cmpR (op_notIn_dx hu) (pv 11) (pv 5) rfl)
            (pss_cons (ps_asg pe_bl (pg_sub (pv 5) (pv 11) (set_dx hu)))
            (pss_one (ps_expr (pe_bm PySem.F.plainAttrs_list PySem.F.slot_list_append PySem.F.type_list_append mt_append (pv 4) (pa_cons (pv 11) pa_nil))))) pss_nil))))
        (pss_one (ps_set (i := 6) scExact.nd rfl (Or.inl rfl) (pe_op op_add (pv 6) pe_int)))))))
      (pss_one (ps_ret pe_bl))), ?_⟩
    have oA := gA.lineOk
    have oB := gB.lineOk
    have oJ := gJ.lineOk
    have lA' : (A.map lnC).length = A.length := List.length_map _
    have lB' : (B.map lnC).length = B.length := List.length_map _
    have lJ' : (J.map lnC).length = J.length := List.length_map _
    refine ⟨by show 3 ≤ sizeLine; decide, fun t0 ht0 => ⟨by show 1 ≤ sizeLine; decide, fun Wa hWa => ?_⟩⟩
    have f0 := new_ (o := .tup [V.int 0, .int 0, .int 0]) ht0
    have g0 : isTr (upd H t0 (.tup [V.int 0, .int 0, .int 0])) t0 (some 0, some 0, 0) := upd_same
    generalize (upd H t0 (.tup [V.int 0, .int 0, .int 0])) = Ha at f0 g0 hWa ⊢
    have nW : H Wa = none := Same.none f0 hWa
    have f1 := f0.trans (new_ (o := .lst [.ref t0]) hWa)
    have g1 : isTr (upd Ha Wa (.lst [.ref t0])) t0 (some 0, some 0, 0) := new_ hWa _ _ g0
    have gW : (upd Ha Wa (.lst [.ref t0])) Wa = some (.lst [.ref t0]) := upd_same
    generalize (upd Ha Wa (.lst [.ref t0])) = Hb at f1 g1 gW ⊢
    intro D hD
    have nD : H D = none := Same.none f1 hD
    have eD := new_ (o := DX P w D []) hD
    have I0 : XS P w H (upd Hb D (DX P w D [])) Wa D [(some 0, some 0, 0)] [] [.ref t0] [] := ⟨f1.trans eD, eD _ _ gW, Ea.one (eD _ _ g1), upd_same, fun p hp => (List.not_mem_nil hp).elim, rfl⟩
    refine ⟨_, _, _, rfl, ?_⟩
    refine ⟨fun m σ' H' => ∃ (Wl Sn : List Tr) (wls : List V) (kvs : List DE) (d : Nat) (x7 x8 x9 x10 x11 : Option V), σ' = [some (.ref L1), some (.ref L2), some (.ref L3), some (.str wy), some (.ref Wa), some (.ref D), some (.int ((d : Nat) : Int)), x7, x8, x9, x10, x11] ∧ XS P w H H' Wa D Wl Sn wls kvs ∧ TB (A.map lnC) (B.map lnC) (J.map lnC) Wl Sn ∧ d ≤ Wl.length ∧ d + m = 14643, ⟨14643, _, _, _, _, 0, none, none, none, none, none, rfl, I0, .init, Nat.zero_le _, rfl⟩, ?_⟩
    clear I0 eD hD g1 gW f1 f0 g0 hWa ht0
    rintro m _ H3 ⟨Wl, Sn, wls, kvs, d, x7, x8, x9, x10, x11, rfl, I, b, hd, hm⟩
    have few := b.few oA oB oJ (by omega) (by omega) (by omega)
    have lwl : wls.length = Wl.length := I.eW.1
    have bl := b.len
    refine ⟨_, rfl, _, rfl, Wa, _, rfl, .inl (SqL.of I.hW), _, _, rfl, rfl, _, rfl, ifD_2 (fun hlt => ?_) (fun hge => kk H3 I.sm)⟩
    have hlt' : d < Wl.length := by omega
    refine ⟨fun σ' H' => ∃ m', m' < m ∧ ∃ (Wl Sn : List Tr) (wls : List V) (kvs : List DE) (d : Nat) (x7 x8 x9 x10 x11 : Option V), σ' = [some (.ref L1), some (.ref L2), some (.ref L3), some (.str wy), some (.ref Wa), some (.ref D), some (.int ((d : Nat) : Int)), x7, x8, x9, x10, x11] ∧ XS P w H H' Wa D Wl Sn wls kvs ∧ TB (A.map lnC) (B.map lnC) (J.map lnC) Wl Sn ∧ d ≤ Wl.length ∧ d + m' = 14643, fun _ _ h => h, ?_⟩
    have hpl : Wl[d]? = some Wl[d] := List.getElem?_eq_getElem hlt'
    have hpm : Wl[d] ∈ Wl := List.getElem_mem hlt'
    generalize Wl[d] = p at hpl hpm
    obtain ⟨c, hc, hcl⟩ := I.eW.get hpl
    have h3p := b.at_ p hpm
    obtain ⟨p1, p2, p3⟩ := p
    obtain ⟨bA, bB, bJ⟩ := h3p.bd oA oB oJ
    have full : ∃ i k, p1 = some i ∧ p2 = some k := by
      obtain ⟨wd_, w1, w2, _⟩ := h3p
      obtain ⟨i, hi, _⟩ := JK.full_wd gA.full rfl wd_ (i := 0) oA.one
      obtain ⟨k, hk, _⟩ := JK.full_wd gB.full rfl wd_ (i := 0) oB.one
      exact ⟨i, k, w1.symm.trans hi, w2.symm.trans hk⟩
    obtain ⟨i, k, rfl, rfl⟩ := full
    have bA : i < A.length := by have := bA i rfl; omega
    have bB : k < B.length := by have := bB k rfl; omega
    have bJ : p3 < J.length := by have : p3 < (J.map lnC).length := bJ; omega
    have hnum : num J p3 = op (num A i) (num B k) := by
      obtain ⟨wd_, w1, w2, w3⟩ := h3p
      exact hx wd_ i k p3 w1 w2 w3
    have hcl : H3 c = some (.tup [V.int (i : Int), V.int (k : Int), .int ((p3 : Nat) : Int)]) := hcl
    have hat : atI wls ((d : Nat) : Int) = some (.ref c) := atI_nat hc
    refine ⟨_, rfl, _, rfl, Wa, wls, ((d : Nat) : Int), .ref c, rfl, rfl, SqL.of I.hW, hat, ?_⟩
    refine ⟨c, _, rfl, SqT.of hcl, rfl, _, _, rfl, _, _, rfl, _, _, rfl, rfl, ?_⟩
    -- the verdicts
    obtain ⟨d3, a3, c3, n3, q31, q32, rfl, _, _⟩ := rd_cr (e3.same I.sm) bJ false
    refine ⟨_, rfl, _, rfl, L3, refs3, (p3 : Int), .ref d3, rfl, rfl, SqT.of (I.sm _ _ h3), q31, d3, _, 2, _, rfl, rfl, SqT.of q32, rfl, num J p3, rfl, gJ.num_lt bJ, fun ta Ha sa hta => ?_⟩
    have Ia := I.same sa
    obtain ⟨d1, a1, c1, n1, q11, q12, rfl, _, _⟩ := rd_cr (e1.same Ia.sm) bA false
    obtain ⟨d2, a2, c2, n2, q21, q22, rfl, _, _⟩ := rd_cr (e2.same Ia.sm) bB false
    refine ⟨_, rfl, _, rfl, L1, refs1, (i : Int), .ref d1, rfl, rfl, SqL.of (Ia.sm _ _ h1), q11, d1, _, 2, _, rfl, rfl, SqT.of q12, rfl, ?_⟩
    refine ⟨_, rfl, _, rfl, L2, refs2, (k : Int), .ref d2, rfl, rfl, SqL.of (Ia.sm _ _ h2), q21, d2, _, 2, _, rfl, rfl, SqT.of q22, rfl, _, rfl, ?_⟩
    refine ⟨num A i, num B k, wy, op, rfl, gA.num_lt bA, gB.num_lt bB, way, fun tb Hb sb htb => ?_⟩
    have Ib := Ia.same sb
    rw [← hnum] at htb
    refine ⟨.tuple [.bool (b1 (num J p3)), .bool (b2 (num J p3))], .tuple [.bool (b1 (num J p3)), .bool (b2 (num J p3))], .tup (SqT.of (sb _ _ hta)) (.cons (.bl _) (.cons (.bl _) .nil)), .tup (SqT.of htb) (.cons (.bl _) (.cons (.bl _) .nil)), ?_, ?_, _, rfl, ?_⟩
    · cases b1 (num J p3) <;> cases b2 (num J p3) <;> rfl
    · cases b1 (num J p3) <;> cases b2 (num J p3) <;> rfl
    rw [show PyData.eqv (.tuple [.bool (b1 (num J p3)), .bool (b2 (num J p3))]) (.tuple [.bool (b1 (num J p3)), .bool (b2 (num J p3))]) = true by cases b1 (num J p3) <;> cases b2 (num J p3) <;> rfl]
    refine iteF ?_
    refine ⟨by show 2 ≤ sizeLine; decide, fun tp htp => ⟨tp, rfl, ⟨_, SqT.of upd_same⟩, ?_⟩⟩
    have etp := new_ (o := .tup [V.int 0, .int 1]) htp
    have gtp : (upd Hb tp (.tup [V.int 0, .int 1])) tp = some (.tup [V.int 0, .int 1]) := upd_same
    have I4 := Ib.same etp
    clear I Ia Ib hcl htp hat hc hta htb q31 q32 q11 q12 q21 q22
    generalize (upd Hb tp (.tup [V.int 0, .int 1])) = H4 at gtp I4 ⊢
    clear etp sa sb
    refine for_tup (K := K) (a := tp) (xs := [V.int 0, .int 1]) (fun i' σ' H' => ∃ (X : List Tr) (wls : List V) (kvs : List DE) (x10 x11 : Option V), σ' = [some (.ref L1), some (.ref L2), some (.ref L3), some (.str wy), some (.ref Wa), some (.ref D), some (.int ((d : Nat) : Int)), some (.int (i : Int)), some (.int (k : Int)), some (.int ((p3 : Nat) : Int)), x10, x11] ∧ XS P w H H' Wa D (Wl ++ X) (Sn ++ X) wls kvs ∧ TB (A.map lnC) (B.map lnC) (J.map lnC) (Wl ++ X) (Sn ++ X) ∧ H' tp = some (.tup [V.int 0, .int 1])) ?_ ?_ ?_ ?_
    · exact ⟨[], wls, kvs, _, _, rfl, by rw [List.append_nil, List.append_nil]; exact I4, by rw [List.append_nil, List.append_nil]; exact b, gtp⟩
    · rintro i' σ' H' _ ⟨_, _, _, _, _, _, _, _, hF'⟩
      exact SqT.of hF'
    · rintro i' x _ H6 hx' ⟨X, wls, kvs, x10, x11, rfl, I6, b6, gtp6⟩
      obtain ⟨bi, rfl⟩ : ∃ bi, x = bV bi := by
        match i', hx' with
        | 0, hx' => cases hx'; exact ⟨false, rfl⟩
        | 1, hx' => cases hx'; exact ⟨true, rfl⟩
        | (i + 2), hx' => simp at hx'
      have few6 := b6.few oA oB oJ (by omega) (by omega) (by omega)
      have bl6 := b6.len
      have lwl6 : wls.length = (Wl ++ X).length := I6.eW.1
      obtain ⟨d1, a1, c1, n1, q11, q12, _, q13, q14⟩ := rd_cr (e1.same I6.sm) bA bi
      obtain ⟨d2, a2, c2, n2, q21, q22, _, q23, q24⟩ := rd_cr (e2.same I6.sm) bB bi
      obtain ⟨d3, a3, c3, n3, q31, q32, _, q33, q34⟩ := rd_cr (e3.same I6.sm) bJ bi
      have hq3 := h3p.step q34
      dsimp only at hq3
      rw [Option.bind_some, Option.bind_some, q14, q24] at hq3
      generalize (if bi = true then c1 else a1) = u at q13 hq3
      generalize (if bi = true then c2 else a2) = v at q23 hq3
      generalize (if bi = true then c3 else a3) = z at q33 hq3
      refine ⟨_, rfl, _, rfl, L1, refs1, (i : Int), .ref d1, rfl, rfl, SqL.of (I6.sm _ _ h1), q11, _, rfl, d1, _, _, _, rfl, rfl, SqT.of q12, q13, ?_⟩
      refine ⟨_, rfl, _, rfl, L2, refs2, (k : Int), .ref d2, rfl, rfl, SqL.of (I6.sm _ _ h2), q21, _, rfl, d2, _, _, _, rfl, rfl, SqT.of q22, q23, ?_⟩
      refine ⟨_, rfl, _, rfl, L3, refs3, (p3 : Int), .ref d3, rfl, rfl, SqT.of (I6.sm _ _ h3), q31, _, rfl, d3, _, _, _, rfl, rfl, SqT.of q32, q33, by show 3 ≤ sizeLine; decide, fun k1 hk1 => ?_⟩
      have ek1 := new_ (o := .tup [V.int (u : Int), V.int (v : Int), .int (z : Int)]) hk1
      have gk1 : isTr (upd H6 k1 (.tup [V.int (u : Int), V.int (v : Int), .int (z : Int)])) k1 (some u, some v, z) := upd_same
      have I7 := I6.same ek1
      have gtp7 := ek1 _ _ gtp6
      generalize (upd H6 k1 (.tup [V.int (u : Int), V.int (v : Int), .int (z : Int)])) = H7 at gk1 I7 gtp7 ⊢
      refine ⟨_, rfl, _, rfl, D, k1, _, tk3 (some u, some v, z), rfl, rfl, ⟨kvs, I7.hD, rfl, I7.ka⟩, isTr.key gk1, _, rfl, ?_⟩
      rw [I7.has]
      by_cases hin : (some u, some v, z) ∈ Sn ++ X
      · rw [decide_eq_true hin]
        exact iteF ⟨X, wls, kvs, _, _, rfl, I7, b6, gtp7⟩
      rw [decide_eq_false hin]
      refine iteT ⟨_, rfl, _, rfl, D, k1, kvs, tk3 (some u, some v, z), rfl, rfl, I7.hD, I7.ka, isTr.key gk1, I7.no hin, ?_, ?_⟩
      · rw [I7.lenK]
        exact Nat.lt_of_le_of_lt few6 (by decide)
      have I9 := I7.seen nD (v := V.bl true) gk1
      have gtp9 := I7.tkD (o := DX P w D (kvs ++ [(tk3 (some u, some v, z), k1, V.bl true)])) gtp7
      have gk9 := I7.tkD (o := DX P w D (kvs ++ [(tk3 (some u, some v, z), k1, V.bl true)])) gk1
      refine ⟨_, rfl, .inl ⟨rfl, _, SqL.of I9.hW⟩, _, rfl, Wa, _, _, rfl, rfl, I9.hW, ?_, ?_⟩
      · rw [lwl6, bl6]
        exact Nat.lt_of_le_of_lt (Nat.add_le_add_left few6 1) (by decide)
      have IB := I9.app nW (q := (some u, some v, z)) gk9
      have gtpB := I9.tkW (o := .lst (wls ++ [.ref k1])) gtp9
      exact ⟨X ++ [(some u, some v, z)], _, _, _, _, rfl, by rw [← List.append_assoc, ← List.append_assoc]; exact IB, by rw [← List.append_assoc, ← List.append_assoc]; exact b6.add hq3 hin, gtpB⟩
    rintro σ' H6 ⟨X, wls, kvs, x10, x11, rfl, I6, b6, gtp6⟩
    refine ⟨_, rfl, _, _, rfl, rfl, ?_⟩
    have lX : (Wl ++ X).length = Wl.length + X.length := List.length_append
    have few6 := b6.few oA oB oJ (by omega) (by omega) (by omega)
    have bl6 := b6.len
    exact ⟨m - 1, by omega, Wl ++ X, Sn ++ X, wls, kvs, d + 1, _, _, _, _, _, rfl, I6, b6, by omega, by omega⟩
end
end PA

set_option maxHeartbeats 8000000
namespace PA
open PySem L2 RZ
open C8 (pss_cut tCut)
open JM (en LineOk sd en_at)
open JW (wd wd_none wd_snoc)
open JK (num num_at lnC)
theorem walk_snoc (ls : List Ln) : ∀ (r : List Int) (s : Option Nat) (b c : Int), walk ls s b (r ++ [c]) = nxt ls (walk ls s b r) (decide (c = (b :: r).getLast (by simp)))
  | [], s, b, c => rfl
  | d :: r, s, b, c => by
    show walk ls (nxt ls s (decide (d = b))) d (r ++ [c]) = _
    rw [walk_snoc ls r]
    show _ = nxt ls (walk ls (nxt ls s (decide (d = b))) d r) _
    rw [List.getLast_cons (by simp : d :: r ≠ [])]
theorem nxt_none (ls : List Ln) (b : Bool) : nxt ls none b = none := rfl
theorem walk_none (ls : List Ln) : ∀ (r : List Int) (b : Int), walk ls none b r = none
  | [], b => rfl
  | c :: r, b => by
    show walk ls (nxt ls none _) c r = none
    rw [nxt_none]
    exact walk_none ls r c
/-- the state behind the first i + 1 calls -/
def stAt (ls : List Ln) (zs : List Int) (i : Nat) : Option Nat := aft ls (zs.take (i + 1))
theorem last_take {zs : List Int} {i : Nat} {x : Int} (h : zs[i]? = some x) (hne : zs.take (i + 1) ≠ []) : (zs.take (i + 1)).getLast hne = x := by
  have hi := (List.getElem?_eq_some_iff.mp h).1
  have e : zs.take (i + 1) = zs.take i ++ [x] := take_succ' h
  simp only [e, List.getLast_append, List.getLast_singleton]
  simp
theorem st_step {ls : List Ln} {zs : List Int} {i : Nat} {x y : Int} (hx : zs[i]? = some x) (hy : zs[i + 1]? = some y) : stAt ls zs (i + 1) = nxt ls (stAt ls zs i) (decide (y = x)) := by
  unfold stAt
  rw [take_succ' hy]
  cases zs with
  | nil => simp at hx
  | cons c r =>
    have e : (c :: r).take (i + 1) = c :: r.take i := rfl
    have hl := last_take hx (by rw [e]; simp)
    rw [e]
    show walk ls (some 0) c (r.take i ++ [y]) = nxt ls (walk ls (some 0) c (r.take i)) _
    rw [walk_snoc]
    have hl' : (c :: r.take i).getLast (by simp) = x := by
      rw [← hl]
      congr 1
    rw [hl']
theorem st_0 {ls : List Ln} {zs : List Int} : stAt ls zs 0 = some 0 := by
  cases zs with
  | nil => rfl
  | cons c r => rfl
theorem st_end {ls : List Ln} {zs : List Int} {n : Nat} (h : zs.length ≤ n + 1) : stAt ls zs n = aft ls zs := by
  unfold stAt
  rw [List.take_of_length_le h]
/-- once None, always None -/
theorem st_none {ls : List Ln} {zs : List Int} {i : Nat} (h : stAt ls zs i = none) : aft ls zs = none := by
  cases zs with
  | nil => cases h
  | cons c r =>
    have e : r = r.take i ++ r.drop i := (List.take_append_drop i r).symm
    have h' : walk ls (some 0) c (r.take i) = none := h
    have app : ∀ (a b : List Int) (s : Option Nat) (d : Int), walk ls s d a = none → walk ls s d (a ++ b) = none := by
      intro a
      induction a with
      | nil => intro b s d h; cases h; exact walk_none ls b d
      | cons x a ih => intro b s d h; exact ih b _ x h
    show walk ls (some 0) c r = none
    rw [e]
    exact app _ _ _ _ h'
/-- the states are states -/
theorem nxt_lt {ls : List Ln} (gd : GoodL ls) {s : Option Nat} {b : Bool} {a : Nat} (h : nxt ls s b = some a) : a < ls.length := by
  unfold nxt at h
  cases s with
  | none => cases h
  | some i =>
    rw [Option.bind_some] at h
    cases hl : ls[i]? with
    | none => rw [hl] at h; cases h
    | some l =>
      rw [hl, Option.bind_some] at h
      have := gd.ok l (List.mem_of_getElem? hl)
      cases b
      · exact this.2 a h
      · exact this.1 a h
theorem walk_lt {ls : List Ln} (gd : GoodL ls) : ∀ (r : List Int) (s : Option Nat) (b : Int) (a : Nat), (∀ i, s = some i → i < ls.length) → walk ls s b r = some a → a < ls.length
  | [], s, b, a, hs, h => hs a h
  | c :: r, s, b, a, hs, h => walk_lt gd r _ c a (fun i hi => nxt_lt gd hi) h
theorem aft_lt {ls : List Ln} (gd : GoodL ls) {zs : List Int} {a : Nat} (h : aft ls zs = some a) : a < ls.length := by
  have one := gd.one
  cases zs with
  | nil => cases h; exact one
  | cons c r => exact walk_lt gd r (some 0) c a (fun i hi => by cases hi; exact one) h
/-- by 1 - c all is the same -/
theorem walk_flip (ls : List Ln) : ∀ (r : List Int) (s : Option Nat) (b : Int), walk ls s (1 - b) (r.map fun c => 1 - c) = walk ls s b r
  | [], s, b => rfl
  | c :: r, s, b => by
    show walk ls (nxt ls s (decide (1 - c = 1 - b))) (1 - c) (r.map fun c => 1 - c) = walk ls (nxt ls s (decide (c = b))) c r
    rw [walk_flip ls r]
    have : decide (1 - c = 1 - b) = decide (c = b) := decide_eq_decide.mpr (by omega)
    rw [this]
theorem aft_flip (ls : List Ln) (zs : List Int) : aft ls (zs.map fun c => 1 - c) = aft ls zs := by
  cases zs with
  | nil => rfl
  | cons c r => exact walk_flip ls r (some 0) c
theorem aft_take {ls : List Ln} {zs : List Int} (n : Nat) (h : (aft ls zs).isSome = true) : (aft ls (zs.take n)).isSome = true := by
  cases n with
  | zero => rfl
  | succ n =>
    cases e : aft ls (zs.take (n + 1)) with
    | some a => rfl
    | none =>
      have := st_none (ls := ls) (zs := zs) (i := n) e
      rw [this] at h
      cases h
/-! ### the defs -/
/-- the word of a row of calls -/
def wof (b : Int) : List Int → List Bool
  | [] => []
  | c :: r => (!decide (c = b)) :: wof c r
theorem walk_wd (ls : List Ln) : ∀ (r : List Int) (s : Option Nat) (b : Int), walk ls s b r = wd ls s (wof b r)
  | [], _, _ => rfl
  | c :: r, s, b => by
    show walk ls (nxt ls s (decide (c = b))) c r = wd ls (s.bind fun i => en ls i (!decide (c = b))) (wof c r)
    rw [walk_wd ls r]
    congr 1
    unfold nxt en sd
    cases s with
    | none => rfl
    | some i =>
      show (ls[i]?.bind _) = (ls[i]?.bind _)
      cases decide (c = b) <;> rfl
def word (zs : List Int) : List Bool := match zs with
  | [] => []
  | c :: r => wof c r
theorem aft_wd (ls : List Ln) (zs : List Int) : aft ls zs = wd ls (some 0) (word zs) := by
  cases zs with
  | nil => rfl
  | cons c r => exact walk_wd ls r _ c
theorem aft_ltL {ls : List Ln} (g : LineOk ls) {zs : List Int} {a : Nat} (h : aft ls zs = some a) : a < ls.length := by
  rw [aft_wd] at h
  exact JW.wd_lt g _ _ a (fun i hi => by cases hi; exact g.one) h
/-- the verdict's number -/
def vnum (A : List Cr) (zs : List Int) : Nat := num A ((aft (A.map lnC) zs).getD 0)
def spAfter (K : PySem.W.Frag) : Sp := fun vs H Q _ => ∃ (R c : Addr) (refs : List V) (A : List Cr) (zs : List Int), vs = [.ref R, .ref c] ∧ H R = some (.tup refs) ∧ Ea H isCr refs A ∧ OkC A ∧ Sq K H c (zs.map V.int) ∧ zs.length ≤ 1000 ∧ ∀ H', Same H H' → Q (ev (aft (A.map lnC) zs)) H'
theorem ev_nonZ {o : Option Nat} : decide (ev o = .non) = !o.isSome := by
  cases o <;> rfl
theorem aft_some {A : List Cr} (g : OkC A) (zs : List Int) : ∃ i, aft (A.map lnC) zs = some i ∧ i < A.length := by
  obtain ⟨i, h1, h2⟩ := JK.full_wd g.full rfl (word zs) (i := 0) g.lineOk.one
  rw [aft_wd]
  exact ⟨i, h1, by rwa [List.length_map] at h2⟩
section
variable {P : Program} {w : World} {K : PySem.W.Frag} {mg : Str → Option Value} {base : Heap} {C Fo : Addr}
theorem scAfter : FnScope ["rows", "calls", "state", "before", "call", "same", "other"] ["rows", "calls"] (defScope sAfter) := ⟨rfl, rfl, rfl, by decide +kernel, rfl, by decide +kernel, by decide +kernel⟩
theorem ok_after {f : Addr} {fd : FuncData} (F : Fun K "state_after" "state_after" sAfter f fd) (T : Txt K mg) : FnOk P w K mg base CX0 1 f fd ["rows", "calls"] (spAfter K) := by
  refine F.ok scAfter (fun vs H Q E h => ?_) (fun cdv A outer s H vs Q E hr h => ?_)
  · obtain ⟨R, c, _, _, _, rfl, _⟩ := h
    rfl
  · obtain ⟨R, c, refs, A, zs, rfl, hR, hE, gc, hc, hz, kk⟩ := h
    obtain ⟨ls, hls⟩ : ∃ ls, ls = A.map JK.lnC := ⟨_, rfl⟩
    have gd := gc.lineOk
    rw [← hls] at kk gd
    refine ⟨_, pss_cons (ps_set (i := 2) scAfter.nd rfl (Or.inl rfl) pe_int)
      (pss_cons (ps_for PassesOwn.never rfl (pi_zipA (by rfl) T.zip_ (pa_cons (pv 1) (pa_cons (pe_slice (sl_list.or sl_tupA) (pv 1) (po_some pe_int) po_none) pa_nil)))
          (pg_tup rfl (pgs_cons (pg_name (i := 3) scAfter.nd rfl (Or.inl rfl)) (pgs_cons (pg_name (i := 4) scAfter.nd rfl (Or.inl rfl)) pgs_nil)))
        (pss_cons (ps_if (pt_cmp (pc_isN (pv 2))) (pss_one (ps_ret pe_non)) pss_nil)
        (pss_cons (ps_asg (pe_slice sl_tupA (pe_ix ix_tup (pv 0) (pv 2) (fun _ _ => rfl)) po_none (po_some pe_int)) (pg_tup rfl (pgs_cons (pg_name (i := 5) scAfter.nd rfl (Or.inl rfl)) (pgs_cons (pg_name (i := 6) scAfter.nd rfl (Or.inl rfl)) pgs_nil))))
        (pss_one (ps_set (i := 2) scAfter.nd rfl (Or.inl rfl) (pe_ifExp (pt_cmpR op_eq (pv 4) (pv 3) (nomark _)) (pv 5) (pv 6)))))))
      (pss_one (ps_ret (pv 2)))), ?_⟩
    obtain ⟨k, hk⟩ := hc.kind
    refine ⟨_, rfl, _, rfl, _, rfl, sl_k hk fun p H1 s1 hp => ?_⟩
    rw [cut_1] at hp
    have hlen : zs.length - 1 = min (zs.map V.int).length ((zs.map V.int).drop 1).length := by
      rw [List.length_drop, List.length_map]
      omega
    have wz := walk_zk (K := K) (k := k) (a := c) (b := p) hlen
    refine ⟨c, p, zs.map V.int, (zs.map V.int).drop 1, rfl, ?_⟩
    cases k
    case' l => refine .inl ⟨hk.up s1, hp, ?_⟩
    case' t => refine .inr ⟨hk.up s1, hp, ?_⟩
    all_goals
      refine for_it wz (fun i σ' H' => ∃ x3 x4 x5 x6, σ' = [some (.ref R), some (.ref c), some (ev (stAt ls zs i)), x3, x4, x5, x6] ∧ Same H1 H') ⟨_, _, _, _, by rw [st_0]; rfl, fun _ _ e => e⟩ (fun i σ' H' _ q => by
        obtain ⟨_, _, _, _, _, s'⟩ := q
        exact ⟨(hk.up s1).up s', hp.up s'⟩) ?_ ?_
      · rintro i _ _ H2 _ hi ⟨x3, x4, x5, x6, rfl, s2⟩ ⟨t, x, y, rfl, ht, rfl, hx, hy⟩
        dsimp only at hx hy
        rw [List.getElem?_map, Option.map_eq_some_iff] at hx
        rw [List.getElem?_drop, Nat.add_comm, List.getElem?_map, Option.map_eq_some_iff] at hy
        obtain ⟨x, hx, rfl⟩ := hx
        obtain ⟨y, hy, rfl⟩ := hy
        have s3 := new_ (o := .tup [.int x, .int y]) ht
        have sm := (s1.trans s2).trans s3
        refine ⟨t, _, rfl, SqT.of upd_same, rfl, _, _, rfl, _, _, rfl, rfl, ?_⟩
        refine ⟨_, rfl, _, rfl, ?_⟩
        rw [ev_nonZ]
        cases hs : stAt ls zs i with
        | none =>
          refine iteT ?_
          have := kk _ sm
          rw [st_none hs] at this
          exact this
        | some a =>
          refine iteF ?_
          have ha := aft_ltL gd hs
          have haA : a < A.length := by rw [hls, List.length_map] at ha; exact ha
          obtain ⟨d, hd, hdl⟩ := hE.get (List.getElem?_eq_getElem haA)
          have ela : ls[a] = (some A[a].1, some A[a].2.1) := by
            have : ls[a]? = some (JK.lnC A[a]) := by rw [hls, List.getElem?_map, List.getElem?_eq_getElem haA]; rfl
            rw [List.getElem?_eq_getElem ha] at this
            exact Option.some.inj this
          refine ⟨_, rfl, _, rfl, R, refs, (a : Int), _, rfl, rfl, SqT.of (sm _ _ hR), atI_nat hd, ?_⟩
          have hd2 := sm _ _ hdl
          refine ⟨_, rfl, d, _, rfl, SqT.of hd2, fun n => absurd n.2 (by show ¬ HT.sIx 3 3 (some 2) = 3; decide), fun _ p2 hp2 => ?_⟩
          have e2 : cutV (cv A[a]) none (some 2) = [V.int (A[a].1 : Int), V.int (A[a].2.1 : Int)] := rfl
          rw [e2]
          have s4 := new_ (o := .tup [V.int (A[a].1 : Int), V.int (A[a].2.1 : Int)]) hp2
          refine ⟨p2, _, rfl, SqT.of upd_same, rfl, _, _, rfl, _, _, rfl, rfl, ?_⟩
          have st := st_step (ls := ls) hx hy
          rw [hs] at st
          refine ⟨_, rfl, _, rfl, rfl, _, rfl, ifD_2 (fun e => ?_) (fun e => ?_)⟩
          · have e' : y = x := by injection e
            refine ⟨_, rfl, some (.int x), some (.int y), some (V.int (A[a].1 : Int)), some (V.int (A[a].2.1 : Int)), ?_, (s2.trans s3).trans s4⟩
            rw [st, decide_eq_true e']
            unfold nxt
            rw [Option.bind_some, List.getElem?_eq_getElem ha, ela]
            rfl
          · have e' : ¬ y = x := fun z => e (by rw [z])
            refine ⟨_, rfl, some (.int x), some (.int y), some (V.int (A[a].1 : Int)), some (V.int (A[a].2.1 : Int)), ?_, (s2.trans s3).trans s4⟩
            rw [st, decide_eq_false e']
            unfold nxt
            rw [Option.bind_some, List.getElem?_eq_getElem ha, ela]
            rfl
      · rintro _ H2 ⟨x3, x4, x5, x6, rfl, s2⟩
        refine ⟨_, rfl, ?_⟩
        rw [st_end (by omega)]
        exact kk H2 (s1.trans s2)
abbrev sVer : Stmt := inClass (top 27) 2
def spVer (K : PySem.W.Frag) (C : Addr) : Sp := fun vs H Q _ => ∃ (p c : Addr) (A : List Cr) (zs : List Int), vs = [.ref p, .ref c] ∧ ClaimAt C H p A ∧ OkC A ∧ Sq K H c (zs.map V.int) ∧ zs.length ≤ 1000 ∧ ∀ H', Same H H' → Q (.str (vt (vnum A zs))) H'
theorem scVer : FnScope ["self", "calls"] ["self", "calls"] (defScope sVer) := ⟨rfl, rfl, rfl, by decide +kernel, rfl, by decide +kernel, by decide +kernel⟩
theorem ok_ver {f g : Addr} {fd gd : FuncData} (F : Fun K "verdict" "Claim.verdict" sVer f fd) (T : Txt K mg) (TC : TxtC K mg C Fo) (D : Df K mg "state_after" sAfter g gd ["rows", "calls"]) : FnOk P w K mg base CX0 2 f fd ["self", "calls"] (spVer K C) := by
  have G : FnOk P w K mg base CX0 1 g gd ["rows", "calls"] (spAfter K) := ok_after D.F T
  refine F.ok scVer (fun vs H Q E h => ?_) (fun cdv A0 outer s H vs Q E hr h => ?_)
  · obtain ⟨p, c, _, _, rfl, _⟩ := h
    rfl
  · obtain ⟨p, c, A, zs, rfl, ⟨dx, R, refs, hp, hR, hE⟩, gd, hc, hz, kk⟩ := h
    refine ⟨_, pss_one (ps_ret (pe_ix ix_tup (pe_ix ix_tup (pe_fld (pv 0) rfl) (pe_call G hr rfl D.M D.F.kp D.B .nil pass0 (pa_cons (pe_fld (pv 0) rfl) (pa_cons (pv 1) pa_nil))) (fun _ _ => rfl)) pe_int (fun _ _ => rfl))), ?_⟩
    obtain ⟨i, hi, hlt⟩ := aft_some gd zs
    have ek : vnum A zs = num A i := by unfold vnum; rw [hi]; rfl
    refine ⟨_, rfl, p, C, dx, _, _, rfl, hp, TC.cl, TC.nR, rsf_rows R, _, rfl, p, C, dx, _, _, rfl, hp, TC.cl, TC.nR, rsf_rows R, _, rfl, R, c, refs, A, zs, rfl, hR, hE, gd, hc, hz, fun H' s' => ?_⟩
    rw [hi]
    obtain ⟨d, h1, h2, h3⟩ := rd_num (K := K) (hE.same s') hlt
    refine ⟨R, refs, (i : Int), .ref d, rfl, rfl, SqT.of (s' _ _ hR), h1, d, _, 2, _, rfl, rfl, SqT.of h2, atI_nat (i := 2) h3, ?_⟩
    have := kk H' s'
    rw [ek] at this
    exact this
end
end PA

set_option maxHeartbeats 8000000
namespace PA
open PySem L2 RZ
open C8 (pss_cut tCut)
open JM (en LineOk)
open JK (num lnC)
abbrev sVd : Stmt := top 45
theorem rd_way {H : Hp} {refs : List V} {A : List Cr} (hE : Ea H isCr refs A) {i : Nat} (h : i < A.length) (same : Bool) : ∃ (d : Addr) (a b n : Nat), atI refs (i : Int) = some (.ref d) ∧ H d = some (.tup [V.int (a : Int), .int (b : Int), .str (vt n)]) ∧ nxt (A.map lnC) (some i) same = some (if same = true then a else b) := by
  obtain ⟨d, hd, q⟩ := hE.get (List.getElem?_eq_getElem h)
  refine ⟨d, A[i].1, A[i].2.1, A[i].2.2, atI_nat hd, q, ?_⟩
  unfold nxt
  rw [Option.bind_some, List.getElem?_map, List.getElem?_eq_getElem h]
  cases same <;> rfl
def spVd : Sp := fun vs H Q _ => ∃ (L c : Addr) (refs : List V) (A : List Cr) (zs : List Int), vs = [.ref L, .ref c] ∧ H L = some (.lst refs) ∧ Ea H isCr refs A ∧ OkC A ∧ H c = some (.lst (zs.map V.int)) ∧ zs ≠ [] ∧ zs.length ≤ 1000 ∧ Q (.str (vt (vnum A zs))) H
section
variable {P : Program} {w : World} {K : PySem.W.Frag} {mg : Str → Option Value} {base : Heap} {C Fo : Addr}
theorem scVd : FnScope ["_law_lines", "_law_calls", "_law_state", "_law_at"] ["_law_lines", "_law_calls"] (defScope sVd) := ⟨rfl, rfl, rfl, by decide +kernel, rfl, by decide +kernel, by decide +kernel⟩
theorem ok_vd {f : Addr} {fd : FuncData} (F : Fun K "_law_verdict" "_law_verdict" sVd f fd) (T : Txt K mg) : FnOk P w K mg base CX0 1 f fd ["_law_lines", "_law_calls"] spVd := by
  refine F.ok scVd (fun vs H Q E h => ?_) (fun cdv A0 outer s H vs Q E hr h => ?_)
  · obtain ⟨L, c, _, _, _, rfl, _⟩ := h
    rfl
  · obtain ⟨L, c, refs, A, zs, rfl, hL, hE, gd, hc, hne, hz, kk⟩ := h
    refine ⟨_, pss_cons (ps_set (i := 2) scVd.nd rfl (Or.inl rfl) pe_int)
      (pss_cons (ps_for PassesOwn.never rfl (pi_range2 (by rfl) T.range_ (pa_cons pe_int (pa_cons (pe_callB call_len_seq (by rfl) T.len_ PySem.boot_len (pa_cons (pv 1) pa_nil)) pa_nil))) (pg_name (i := 3) scVd.nd rfl (Or.inl rfl))
        (pss_one (ps_set (i := 2) scVd.nd rfl (Or.inl rfl) (pe_ix ix_tup (pe_ix ix_list (pv 0) (pv 2) (fun _ _ => rfl)) (pe_ifExp (pt_cmpR op_eq (pe_ix ix_list (pv 1) (pv 3) (fun _ _ => rfl)) (pe_ix ix_list (pv 1) (pe_op op_sub (pv 3) pe_int) (fun _ _ => rfl)) (nomark _)) pe_int pe_int) (fun _ _ => rfl)))))
      (pss_one (ps_ret (pe_ix ix_tup (pe_ix ix_list (pv 0) (pv 2) (fun _ _ => rfl)) pe_int (fun _ _ => rfl))))), ?_⟩
    have z1 : 1 ≤ zs.length := List.length_pos_iff.mpr hne
    have lz : (zs.map V.int).length = zs.length := List.length_map _
    refine ⟨_, rfl, c, _, rfl, .inl (SqL.of hc), 1, (zs.length : Int), congrArg (fun z : Nat => [V.int 1, V.int (z : Int)]) lz, ⟨by decide, by decide, by omega, by omega⟩, ?_⟩
    have hn : ((zs.length : Int) - 1).toNat = zs.length - 1 := by omega
    rw [hn]
    refine for_range (n := zs.length - 1) (fun i σ' H' => ∃ x3 j, σ' = [some (.ref L), some (.ref c), some (V.int (j : Nat)), x3] ∧ H = H' ∧ stAt (A.map lnC) zs i = some j ∧ j < A.length) ?_ ?_ ?_
    · exact ⟨_, 0, rfl, rfl, st_0, gd.one⟩
    · rintro i _ _ hi ⟨x3, j, rfl, rfl, hj, hlt⟩
      have hx : zs[i]? = some zs[i] := List.getElem?_eq_getElem (by omega)
      have hy : zs[i + 1]? = some zs[i + 1] := List.getElem?_eq_getElem (by omega)
      have st := st_step (ls := A.map lnC) hx hy
      rw [hj] at st
      generalize zs[i] = x at hx st
      generalize zs[i + 1] = y at hy st
      obtain ⟨d, a, b, n, q1, q2, q3⟩ := rd_way hE hlt (decide (y = x))
      have ok : (if decide (y = x) = true then a else b) < A.length := by
        obtain ⟨i2, h1, h2⟩ := aft_some gd (zs.take (i + 1 + 1))
        have h1 : stAt (A.map lnC) zs (i + 1) = some i2 := h1
        rw [st, q3] at h1
        cases h1
        exact h2
      refine ⟨_, rfl, _, rfl, L, refs, (j : Int), .ref d, rfl, rfl, SqL.of hL, q1, ?_⟩
      refine ⟨_, rfl, _, rfl, c, _, (1 + (i : Int)), .int y, rfl, rfl, SqL.of hc, ?_, ?_⟩
      · have := atI_nat (xs := zs.map V.int) (i := i + 1) (x := .int y) (by rw [List.getElem?_map, hy]; rfl)
        rwa [show (((i + 1 : Nat) : Int)) = 1 + (i : Int) by omega] at this
      refine ⟨_, rfl, _, rfl, _, _, rfl, rfl, c, _, (1 + (i : Int) - 1), .int x, rfl, rfl, SqL.of hc, ?_, ?_⟩
      · have := atI_nat (xs := zs.map V.int) (i := i) (x := .int x) (by rw [List.getElem?_map, hx]; rfl)
        rwa [show ((i : Int)) = 1 + (i : Int) - 1 by omega] at this
      have hd : decide (V.int y = V.int x) = decide (y = x) := by
        by_cases e : y = x
        · rw [decide_eq_true e, decide_eq_true (by rw [e])]
        · rw [decide_eq_false e, decide_eq_false (by intro z; cases z; exact e rfl)]
      refine ⟨rfl, _, rfl, ?_⟩
      rw [hd]
      cases hdec : decide (y = x) with
      | true =>
        rw [hdec] at q3 st ok
        exact iteT ⟨d, _, 0, _, rfl, rfl, SqT.of q2, rfl, _, a, rfl, rfl, st.trans q3, ok⟩
      | false =>
        rw [hdec] at q3 st ok
        exact iteF ⟨d, _, 1, _, rfl, rfl, SqT.of q2, rfl, _, b, rfl, rfl, st.trans q3, ok⟩
    rintro _ _ ⟨x3, j, rfl, rfl, hj, hlt⟩
    obtain ⟨d, h1, h2, h3⟩ := rd_num (K := K) hE hlt
    refine ⟨_, rfl, _, rfl, L, refs, (j : Int), .ref d, rfl, rfl, SqL.of hL, h1, d, _, 2, _, rfl, rfl, SqT.of h2, atI_nat (i := 2) h3, ?_⟩
    have e : vnum A zs = num A j := by
      unfold vnum
      rw [← st_end (ls := A.map lnC) (n := zs.length - 1) (by omega), hj]
      rfl
    rw [← e]
    exact kk
end
end PA

set_option maxHeartbeats 8000000
namespace PA
open PySem L2 RZ
open C8 (pss_cut tCut)
abbrev sCalls : Stmt := top 40
def spCalls : Sp := fun vs H Q _ => ∃ (a l : Addr) (n : Nat) (cases_ most : Int), vs = [.ref a, .int cases_, .int most] ∧ StreamAt H a l n ∧ n ≤ 40000 ∧ 1 ≤ cases_ ∧ cases_ ≤ 48 ∧ 1 ≤ most ∧ most ≤ 400 ∧
  ∀ (L : Addr) (zs : List Int) (n' : Nat) (H' : Hp), H' L = some (.lst (zs.map V.int)) → H L = none → L ≠ a → L ≠ l → (zs.length : Int) ≤ most → StreamAt H' a l n' → n' ≤ n + 1 + 2 * most.toNat → Keep a l H H' → Q (.ref L) H'
section
variable {P : Program} {w : World} {K : PySem.W.Frag} {mg : Str → Option Value} {base : Heap} {C : Addr}
theorem scCalls : FnScope ["_law_stream", "_law_cases", "_law_most", "_law_found", "_law_k"] ["_law_stream", "_law_cases", "_law_most"] (defScope sCalls) := ⟨rfl, rfl, rfl, by decide +kernel, rfl, by decide +kernel, by decide +kernel⟩
theorem ok_calls {f g : Addr} {fd gd : FuncData} (F : Fun K "_law_m_calls" "_law_m_calls" sCalls f fd) (T : Txt K mg) (D : Df K mg "_law_draw" sDraw g gd ["_law_stream", "_law_many"]) : FnOk P w K mg base CX0 2 f fd ["_law_stream", "_law_cases", "_law_most"] spCalls := by
  have G : FnOk P w K mg base CX0 1 g gd ["_law_stream", "_law_many"] spDraw := ok_draw D.F T
  refine F.ok scCalls (fun vs H Q E h => ?_) (fun cdv A outer s H vs Q E hr h => ?_)
  · obtain ⟨a, l, _, _, _, rfl, _⟩ := h
    rfl
  · obtain ⟨a, l, n, cs, most, rfl, S0, hn, c1, c48, h1, h400, kk⟩ := h
    refine ⟨_, pss_cons (ps_set (i := 3) scCalls.nd rfl (Or.inl rfl) (pe_lst pa_nil))
      (pss_cons (ps_for PassesOwn.never rfl (pi_range1 (by rfl) T.range_ (pa_cons (pe_call G hr rfl D.M D.F.kp D.B .nil pass0 (pa_cons (pv 0) (pa_cons (pe_op op_add (pv 2) pe_int) pa_nil))) pa_nil)) (pg_name (i := 4) scCalls.nd rfl (Or.inl rfl))
        (pss_one (ps_if (PW.pt (pw_and (pt_cmpR (op_neD hr.units) (pv 3) (pe_lst pa_nil) (nomark _)) (pw_and1 (pt_cmpR op_eq (pe_call G hr rfl D.M D.F.kp D.B .nil pass0 (pa_cons (pv 0) (pa_cons pe_int pa_nil))) pe_int (nomark _)))))
          (pss_one (ps_expr (pe_bm PySem.F.plainAttrs_list PySem.F.slot_list_append PySem.F.type_list_append mt_append (pv 3) (pa_cons (pe_ix ix_list (pv 3) (pe_un un_neg pe_int) (fun _ _ => rfl)) pa_nil))))
          (pss_one (ps_expr (pe_bm PySem.F.plainAttrs_list PySem.F.slot_list_append PySem.F.type_list_append mt_append (pv 3) (pa_cons (pe_call G hr rfl D.M D.F.kp D.B .nil pass0 (pa_cons (pv 0) (pa_cons (pv 1) pa_nil))) pa_nil)))))))
      (pss_one (ps_ret (pv 3)))), ?_⟩
    refine ⟨Nat.zero_le _, fun L hL => ?_⟩
    obtain ⟨La, Ll⟩ := S0.ne hL
    have sL := new_ (o := .lst []) hL
    refine ⟨_, rfl, _, rfl, _, _, rfl, rfl, a, l, n, _, rfl, S0.same sL, by omega, by omega, sm4 (by omega) (by omega), fun r H1 r0 r1 S1 k1 => ⟨r, rfl, by omega, by omega, ?_⟩⟩
    have hL1 := k1 _ _ La Ll upd_same
    refine for_range (n := r.toNat) (fun i σ' H' => ∃ x4 n' zs, σ' = [some (V.ref a), some (V.int cs), some (V.int most), some (V.ref L), x4] ∧ n' ≤ n + 1 + 2 * i ∧ StreamAt H' a l n' ∧ Keep a l H H' ∧ H' L = some (.lst ((zs : List Int).map V.int)) ∧ zs.length = i) ?_ ?_ ?_
    · exact ⟨none, n + 1, [], rfl, by omega, S1, (Keep.of sL).trans k1, hL1, rfl⟩
    · rintro i _ H2 hi ⟨x4, n', zs, rfl, hn', S2, k2, h2, hz⟩
      have hsz : ∀ {m : Nat}, m < 1000 → m < sizeLine := fun h => Nat.lt_of_lt_of_le h (by decide)
      have hzl : (zs.map V.int).length < sizeLine := by rw [List.length_map]; exact hsz (by omega)
      refine ⟨_, rfl, Nat.zero_le _, fun q hq => ?_⟩
      have sq := new_ (o := .lst []) hq
      have hq2 := sq _ _ h2
      refine ⟨.list (zs.map PyData.int), .list [], .lst (SqL.of hq2) (dp_ints zs), .lst (SqL.of upd_same) .nil, ints_shaped zs, ints_shaped [], _, rfl, ?_⟩
      rw [ints_nil]
      have fin : ∀ (x : Int) (n3 : Nat) (H3 : Hp), StreamAt H3 a l n3 → n3 ≤ n + 1 + 2 * (i + 1) → Keep a l H H3 → H3 L = some (.lst (zs.map V.int)) →
          ∃ x4 n' zs', [some (V.ref a), some (V.int cs), some (V.int most), some (V.ref L), some (V.int (0 + (i : Int)))] = [some (V.ref a), some (V.int cs), some (V.int most), some (V.ref L), x4] ∧ n' ≤ n + 1 + 2 * (i + 1) ∧ StreamAt (upd H3 L (.lst (zs.map V.int ++ [.int x]))) a l n' ∧ Keep a l H (upd H3 L (.lst (zs.map V.int ++ [.int x]))) ∧ (upd H3 L (.lst (zs.map V.int ++ [.int x]))) L = some (.lst ((zs' : List Int).map V.int)) ∧ zs'.length = i + 1 :=
        fun x n3 H3 S3 h3 k3 e3 => ⟨_, n3, zs ++ [x], rfl, h3, S3.lst e3 La Ll, keep_upd k3 hL, by rw [upd_same, List.map_append]; rfl, by rw [List.length_append, hz]; rfl⟩
      by_cases hzs : zs = []
      · have e : zs.isEmpty = true := by rw [hzs]; rfl
        rw [e]
        refine iteF ?_
        refine ⟨_, rfl, .inl ⟨rfl, _, SqL.of hq2⟩, ?_⟩
        refine ⟨_, rfl, _, rfl, a, l, n', cs, rfl, S2.same sq, by omega, by omega, sm4 (by omega) (by omega), fun r2 H3 r20 r21 S3 k3 => ⟨L, _, _, rfl, rfl, k3 _ _ La Ll hq2, hzl, ?_⟩⟩
        exact fin r2 _ H3 S3 (by omega) ((k2.new hq).trans k3) (k3 _ _ La Ll hq2)
      · have ne : zs ≠ [] := hzs
        have e : zs.isEmpty = false := by
          cases zs with
          | nil => exact absurd rfl ne
          | cons _ _ => rfl
        rw [e]
        refine iteT ?_
        refine ⟨_, rfl, a, l, n', 3, rfl, S2.same sq, by omega, by decide, sm4 (by decide) (by decide), fun r2 H3 r20 r21 S3 k3 => ⟨rfl, _, rfl, ?_⟩⟩
        have h3 := k3 _ _ La Ll hq2
        have kq := (k2.new (o := .lst []) hq).trans k3
        obtain ⟨ys, y, hy⟩ := snoc_of ne
        refine ifD_2 (fun _ => ?_) (fun _ => ?_)
        · refine ⟨_, rfl, .inl ⟨rfl, _, SqL.of h3⟩, ?_⟩
          refine ⟨_, rfl, _, rfl, L, _, (-1 : Int), .int y, rfl, rfl, SqL.of h3, by rw [hy, List.map_append]; exact atI_last, L, _, _, rfl, rfl, h3, hzl, ?_⟩
          exact fin y _ H3 S3 (by omega) kq h3
        · refine ⟨_, rfl, .inl ⟨rfl, _, SqL.of h3⟩, ?_⟩
          refine ⟨_, rfl, _, rfl, a, l, _, cs, rfl, S3, by omega, by omega, sm4 (by omega) (by omega), fun r4 H4 r40 r41 S4 k4 => ⟨L, _, _, rfl, rfl, k4 _ _ La Ll h3, hzl, ?_⟩⟩
          exact fin r4 _ H4 S4 (by omega) (kq.trans k4) (k4 _ _ La Ll h3)
    · rintro _ H2 ⟨x4, n', zs, rfl, hn', S2, k2, h2, hz⟩
      refine ⟨_, rfl, kk L zs n' H2 h2 hL La Ll (by omega) S2 (by omega) k2⟩
end
end PA

set_option maxHeartbeats 8000000
namespace PA
open PySem L2 RZ
open C8 (pss_cut tCut)
open JM (LineOk)
open JK (num lnC XC)
structure Prog (K : PySem.W.Frag) (mg : Str → Option Value) (C Fo fCI fFI fAnd fOr fInv fVer fisInt fbelow fisRow fcheck fafter flr fnum ffol fjoin fdraw fstart fpick fsame fcalls fmc fal fdue fexact fvd l1 l2 l3 l4 l5 l6 l7 : Addr) (dCI dFI dAnd dOr dInv dVer disInt dbelow disRow dcheck dafter dlr dnum dfol djoin ddraw dstart dpick dsame dcalls dmc dal ddue dexact dvd m1 m2 m3 m4 m5 m6 m7 : FuncData) : Prop where
  T : Txt K mg
  TV : TxtV K mg
  TC : TxtC K mg C Fo
  TF : TxtF K Fo
  TI : TxtF K C
  CI : Fun K "__init__" "Claim.__init__" sInit fCI dCI
  CM : Mk K C fCI
  Cb : Binds K dCI ["self", "rows"] []
  FI : Fun K "__init__" "Found.__init__" sFInit fFI dFI
  FM : Mk K Fo fFI
  Fb : Binds K dFI ["self", "rows"] []
  FAnd : Fun K "__and__" "Claim.__and__" sAnd fAnd dAnd
  bAnd : Binds K dAnd ["self", "other"] []
  OAnd : OwnS K C fAnd .BitAnd
  FOr : Fun K "__or__" "Claim.__or__" sOr fOr dOr
  bOr : Binds K dOr ["self", "other"] []
  OOr : OwnS K C fOr .BitOr
  FInv : Fun K "__invert__" "Claim.__invert__" sInv fInv dInv
  bInv : Binds K dInv ["self"] []
  aInv : PySem.W.findIn K (.ref C) "__invert__" = some (some (.ref fInv))
  iInv : PySem.W.isFn K (.ref fInv) = true
  FVer : Fun K "verdict" "Claim.verdict" sVer fVer dVer
  bVer : Binds K dVer ["self", "calls"] []
  mVer : Meth K C "verdict" fVer
  isInt : Df K mg "is_integer" sIsInt fisInt disInt ["value"]
  below : Df K mg "is_below" sBelow fbelow dbelow ["value", "count"]
  isRow : Df K mg "_is_row" sIsRow fisRow disRow ["row", "count"]
  check : Df K mg "_check_rows" sCheck fcheck dcheck ["rows"]
  after : Df K mg "state_after" sAfter fafter dafter ["rows", "calls"]
  lr : Df K mg "_least_rows" sLR flr dlr ["rows", "numbers"]
  num : Df K mg "_number" sNum fnum dnum ["rows", "state"]
  fol : Df K mg "_following" sFol ffol dfol ["first", "second", "pair", "at", "either"]
  join : Df K mg "joined" sJoin fjoin djoin ["first", "second", "either"]
  draw : Df K mg "_law_draw" sDraw fdraw ddraw ["_law_stream", "_law_many"]
  start : Df K mg "_law_start" sStart fstart dstart ["_law_script"]
  pick : Df K mg "_law_pick" sPick fpick dpick ["_law_stream", "_law_some"]
  same : Df K mg "_law_same" sSame fsame dsame ["_law_found", "_law_due_here"]
  calls : Df K mg "_law_m_calls" sCalls fcalls dcalls ["_law_stream", "_law_cases", "_law_most"]
  mc : Df K mg "_law_m_claim" sMC fmc dmc ["_law_stream", "_law_most"]
  al : Df K mg "_law_allowed" sAl fal dal ["_law_word"]
  due : Df K mg "_law_due" sDue fdue ddue ["_law_low", "_law_high", "_law_way"]
  exact : Df K mg "_law_exact" sExact fexact dexact ["_law_one", "_law_other", "_law_joint", "_law_way"]
  vd : Df K mg "_law_verdict" sVd fvd dvd ["_law_lines", "_law_calls"]
  LF : LibF K mg l1 l2 l3 l4 l5 l6 l7 m1 m2 m3 m4 m5 m6 m7
theorem mk_set {K : PySem.W.Frag} {C : Addr} {H : Hp} {Q : VK} {E : XK} {L : Addr} {refs : List V} {ls : List Cr} (hL : H L = some (.lst refs) ∨ H L = some (.tup refs)) (hE : Ea H (TLOf cv) refs ls) (gd : GoodC ls)
    {x dx : Addr} (nx : H x = none) (ndx : H dx = none) (nex : dx ≠ x) (kk : ∀ H', Same H H' → ClaimAt C H' x ls → Q .non H') :
    spInit K C [V.ref x, V.ref L] (upd (upd H dx (.own x)) x (.ins C dx [])) Q E := by
  have s1 : Same H (upd (upd H dx (.own x)) x (.ins C dx [])) := fun c o e => by
    rw [upd_ne (ne_of_none e nx), upd_ne (ne_of_none e ndx)]
    exact e
  exact ⟨x, dx, L, refs, ls, rfl, upd_same, hL.imp (fun h => s1 _ _ h) fun h => s1 _ _ h, hE.imp (fun c r q => q.imp (fun q => s1 _ _ q) fun q => s1 _ _ q), gd, fun H' ⟨T, refs', a, b, c⟩ kp => kk H' (fun c' o e => kp c' o (s1 _ _ e) (ne_of_none e nx)) ⟨dx, T, refs', a, b, c⟩⟩
theorem ClaimAt.kp {C : Addr} {H H' : Hp} {p a l : Addr} {n : Nat} {ls : List Cr} (m : ClaimAt C H p ls) (S : StreamAt H a l n) (k : Keep a l H H') : ClaimAt C H' p ls := by
  obtain ⟨dx, T, refs, h1, h2, h3⟩ := m
  have S0 := S
  obtain ⟨ne, ns, x, z, g1, g2, _⟩ := S
  exact ⟨dx, T, refs, k _ _ (ne_of h1 g1 (by intro z; cases z)) (ne_of h1 g2 (by intro z; cases z)) h1, k _ _ (ne_of h2 g1 (by intro z; cases z)) (ne_of h2 g2 (by intro z; cases z)) h2, EaKp h3 S0 k⟩
theorem two_cr {K : PySem.W.Frag} {H : Hp} {t1 t2 : Addr} {xs ys : List V} {A : List Cr} (h1 : H t1 = some (.tup xs)) (h2 : H t2 = some (.tup ys)) (e1 : Ea H isCr xs A) (e2 : Ea H isCr ys A) (h48 : A.length ≤ 48) : Two K H 2 (.ref t1) (.ref t2) := by
  refine .tup (SqT.of h1) (SqT.of h2) (by rw [e1.1, e2.1]) (by rw [e1.1]; exact Nat.le_trans h48 (by decide)) fun i x y hx hy => ?_
  obtain ⟨c, l, rfl, hl, q⟩ := e1.at_ hx
  obtain ⟨d, l', rfl, hl', q'⟩ := e2.at_ hy
  rw [hl] at hl'
  cases hl'
  refine .tup (SqT.of q) (SqT.of q') rfl (by show 3 ≤ sizeLine; decide) fun j x y hx hy => ?_
  rw [hx] at hy
  cases hy
  rcases j with _ | _ | _ | j
  · cases hx; exact .int _ _
  · cases hx; exact .int _ _
  · cases hx; exact .str _ _
  · cases hx
def spLaw (K : PySem.W.Frag) : Sp := fun vs H Q _ => ∃ (a : Addr) (ns : List Int), vs = [.ref a] ∧ SqL K H a (ns.map V.int) ∧ ns.length ≤ 63 ∧ ∀ H', Q (.bl true) H'
/-- what a joined claim says after calls -/
theorem vnum_xc {op : Nat → Nat → Nat} {A B J : List Cr} (x : XC op A B J) (gA : OkC A) (gB : OkC B) (gJ : OkC J) (zs : List Int) : vnum J zs = op (vnum A zs) (vnum B zs) := by
  obtain ⟨i, hi, _⟩ := aft_some gA zs
  obtain ⟨j, hj, _⟩ := aft_some gB zs
  obtain ⟨k, hk, _⟩ := aft_some gJ zs
  unfold vnum
  rw [hi, hj, hk]
  rw [aft_wd] at hi hj hk
  exact x _ i j k hi hj hk
theorem vnum_lt {A : List Cr} (g : OkC A) (zs : List Int) : vnum A zs < 4 := by
  obtain ⟨i, hi, hl⟩ := aft_some g zs
  unfold vnum
  rw [hi]
  exact g.num_lt hl
/-- not twice -/
theorem xc_twice {A J J2 : List Cr} (gA : OkC A) (gJ : OkC J) (x : XC (fun a _ => 3 - a) A A J) (y : XC (fun a _ => 3 - a) J J J2) : XC (fun a b => a &&& b) A A J2 := by
  intro w i j k h1 h2 h3
  rw [h1] at h2
  cases h2
  obtain ⟨m, hm, _⟩ := JK.full_wd gJ.full rfl w (i := 0) gJ.lineOk.one
  have e1 := x w i i m h1 h1 hm
  have e2 := y w m m k hm hm h3
  have hi : i < A.length := by
    have := JW.wd_lt gA.lineOk w _ i (fun z hz => by cases hz; exact gA.lineOk.one) h1
    rwa [List.length_map] at this
  have h4 := gA.num_lt hi
  rw [e2, e1]
  show 3 - (3 - num A i) = num A i &&& num A i
  rw [Nat.and_self]
  omega
theorem bb_eq (n : Nat) : PyData.eqv (.tuple [.bool (b1 n), .bool (b2 n)]) (.tuple [.bool (b1 n), .bool (b2 n)]) = true := by
  cases b1 n <;> cases b2 n <;> rfl
theorem bb_sh (n : Nat) : SeqAt.shaped (.tuple [.bool (b1 n), .bool (b2 n)]) = true := by
  cases b1 n <;> cases b2 n <;> rfl
theorem bb_dp {K : PySem.W.Frag} {H : Hp} {t : Addr} {n : Nat} (h : H t = some (.tup (bb n))) : Dp K H (.ref t) (.tuple [.bool (b1 n), .bool (b2 n)]) := .tup (SqT.of h) (.cons (.bl _) (.cons (.bl _) .nil))
section
variable {P : Program} {w : World} {K : PySem.W.Frag} {mg : Str → Option Value} {base : Heap} {C Fo : Addr}
abbrev NLawZ : List Str := ["_law_script", "_law_stream", "_law_one", "_law_other", "_law_left", "_law_right", "_law_both", "_law_either", "_law_none", "_law_turn", "_law_calls", "_law_low", "_law_high"]
theorem scLaw : FnScope NLawZ ["_law_script"] (defScope sLaw) := ⟨rfl, rfl, rfl, by decide +kernel, rfl, by decide +kernel, by decide +kernel⟩
theorem ok_law {f fCI fFI fAnd fOr fInv fVer fisInt fbelow fisRow fcheck fafter flr fnum ffol fjoin fdraw fstart fpick fsame fcalls fmc fal fdue fexact fvd l1 l2 l3 l4 l5 l6 l7 : Addr} {fd dCI dFI dAnd dOr dInv dVer disInt dbelow disRow dcheck dafter dlr dnum dfol djoin ddraw dstart dpick dsame dcalls dmc dal ddue dexact dvd m1 m2 m3 m4 m5 m6 m7 : FuncData} (F : Fun K "law" "law" sLaw f fd) (G : Prog K mg C Fo fCI fFI fAnd fOr fInv fVer fisInt fbelow fisRow fcheck fafter flr fnum ffol fjoin fdraw fstart fpick fsame fcalls fmc fal fdue fexact fvd l1 l2 l3 l4 l5 l6 l7 dCI dFI dAnd dOr dInv dVer disInt dbelow disRow dcheck dafter dlr dnum dfol djoin ddraw dstart dpick dsame dcalls dmc dal ddue dexact dvd m1 m2 m3 m4 m5 m6 m7) : FnOk P w K mg base CX0 7 f fd ["_law_script"] (spLaw K) := by
  have T := G.T
  have TC := G.TC
  have GI : FnOk P w K mg base CX0 5 fCI dCI ["self", "rows"] (spInit K C) := ok_init G.CI T G.TV TC G.isInt G.below G.isRow G.check
  have GAnd : FnOk P w K mg base CX0 6 fAnd dAnd ["self", "other"] (spOp C (fun a b => a &&& b)) := ok_and G.FAnd T G.TV TC G.TF G.TI G.LF G.lr G.num G.fol G.join G.CI G.CM G.Cb G.FI G.FM G.Fb
  have GOr : FnOk P w K mg base CX0 6 fOr dOr ["self", "other"] (spOp C (fun a b => a ||| b)) := ok_or G.FOr T G.TV TC G.TF G.TI G.LF G.lr G.num G.fol G.join G.CI G.CM G.Cb G.FI G.FM G.Fb
  have GInv : FnOk P w K mg base CX0 6 fInv dInv ["self"] (spInv C) := ok_inv G.FInv T G.TV TC G.TF G.LF G.lr G.num G.CI G.CM G.Cb G.FI G.FM G.Fb
  have GVer : FnOk P w K mg base CX0 2 fVer dVer ["self", "calls"] (spVer K C) := ok_ver G.FVer T TC G.after
  have GS : FnOk P w K mg base CX0 1 fstart dstart ["_law_script"] (spStart K) := ok_start G.start.F T
  have GD : FnOk P w K mg base CX0 1 fdraw ddraw ["_law_stream", "_law_many"] spDraw := ok_draw G.draw.F T
  have GM : FnOk P w K mg base CX0 3 fmc dmc ["_law_stream", "_law_most"] spMC := ok_mc G.mc.F T G.draw G.pick
  have GC : FnOk P w K mg base CX0 2 fcalls dcalls ["_law_stream", "_law_cases", "_law_most"] spCalls := ok_calls G.calls.F T G.draw
  have GA : FnOk P w K mg base CX0 1 fal dal ["_law_word"] spAl := ok_al G.al.F
  have GDu : FnOk P w K mg base CX0 2 fdue ddue ["_law_low", "_law_high", "_law_way"] spDue := ok_due G.due.F G.al
  have GE : FnOk P w K mg base CX0 3 fexact dexact ["_law_one", "_law_other", "_law_joint", "_law_way"] (spExact K) := ok_exact G.exact.F T G.al G.due
  have GV : FnOk P w K mg base CX0 1 fvd dvd ["_law_lines", "_law_calls"] spVd := ok_vd G.vd.F T
  have GSame : FnOk P w K mg base CX0 4 fsame dsame ["_law_found", "_law_due_here"] (spSame K 3) := ok_same G.same T 3
  refine F.ok scLaw (fun vs H Q E h => ?_) (fun cdv A0 outer s H vs Q E hr h => ?_)
  · obtain ⟨a, ns, rfl, _⟩ := h
    rfl
  · obtain ⟨a, ns, rfl, hS, hlen, kk⟩ := h
    have hr1 : Room 1 _ := hr.mono (by decide)
    have hr2 : Room 2 _ := hr.mono (by decide)
    have hr3 : Room 3 _ := hr.mono (by decide)
    have hr4 : Room 4 _ := hr.mono (by decide)
    have hr6 : Room 6 _ := hr
    refine ⟨_, pss_cons (ps_set (i := 1) scLaw.nd rfl (Or.inl rfl) (pe_call GS hr1 rfl G.start.M G.start.F.kp G.start.B .nil pass0 (pa_cons (pv 0) pa_nil)))
      (pss_cons (ps_par (i := 2) (j := 3) (by rfl) scLaw.nd rfl rfl (by decide) rfl rfl (pa_cons (pe_call GM hr3 rfl G.mc.M G.mc.F.kp G.mc.B .nil pass0 (pa_cons (pv 1) (pa_cons pe_int pa_nil))) (pa_cons (pe_call GM hr3 rfl G.mc.M G.mc.F.kp G.mc.B .nil pass0 (pa_cons (pv 1) (pa_cons pe_int pa_nil))) pa_nil)) (by rfl))
      (pss_cons (ps_par (i := 4) (j := 5) (by rfl) scLaw.nd rfl rfl (by decide) rfl rfl (pa_cons (pe_make (E := E0) G.CM GI hr6 rfl TC.mgC G.Cb .nil pass0 (pa_cons (pv 2) pa_nil)) (pa_cons (pe_make (E := E0) G.CM GI hr6 rfl TC.mgC G.Cb .nil pass0 (pa_cons (pv 3) pa_nil)) pa_nil)) (by rfl))
      (pss_cons (ps_par3 (i := 6) (j := 7) (l := 8) (by rfl) scLaw.nd rfl rfl rfl (by decide) (by decide) (by decide) rfl rfl rfl (pa_cons (pe_op (op_ownS (E := E0) G.OAnd GAnd hr6 G.bAnd pass0) (pv 4) (pv 5)) (pa_cons (pe_op (op_ownS (E := E0) G.OOr GOr hr6 G.bOr pass0) (pv 4) (pv 5)) (pa_cons (pe_un (inv_own (E := E0) G.aInv G.iInv GInv hr6 G.bInv pass0) (pv 4)) pa_nil))) (by rfl))
      (pss_cons (ps_if (PW.pt (pw_or (pt_not (pt_val (pe_call GE hr3 rfl G.exact.M G.exact.F.kp G.exact.B .nil pass0 (pa_cons (pv 2) (pa_cons (pv 3) (pa_cons (pe_fld (pv 6) rfl) (pa_cons pe_str pa_nil))))))) (pw_or1 (pt_not (pt_val (pe_call GE hr3 rfl G.exact.M G.exact.F.kp G.exact.B .nil pass0 (pa_cons (pv 2) (pa_cons (pv 3) (pa_cons (pe_fld (pv 7) rfl) (pa_cons pe_str pa_nil)))))))))) pss_never pss_nil)
      (pss_cons (ps_if (PW.pt (pw_or (pt_not (pt_val (pe_call GE hr3 rfl G.exact.M G.exact.F.kp G.exact.B .nil pass0 (pa_cons (pv 2) (pa_cons (pv 2) (pa_cons (pe_fld (pv 8) rfl) (pa_cons pe_str pa_nil))))))) (pw_or1 (pt_not (pt_val (pe_call GE hr3 rfl G.exact.M G.exact.F.kp G.exact.B .nil pass0 (pa_cons (pv 2) (pa_cons (pv 2) (pa_cons (pe_fld (pe_un (inv_own (E := E0) G.aInv G.iInv GInv hr6 G.bInv pass0) (pv 8)) rfl) (pa_cons pe_str pa_nil)))))))))) pss_never pss_nil)
      (pss_cons (ps_for PassesOwn.never rfl (pi_range1 (by rfl) T.range_ (pa_cons pe_int pa_nil)) (pg_name (i := 9) scLaw.nd rfl (Or.inl rfl))
        (pss_cons (ps_set (i := 10) scLaw.nd rfl (Or.inl rfl) (pe_op op_cat (pe_lst (pa_cons (pe_call GD hr1 rfl G.draw.M G.draw.F.kp G.draw.B .nil pass0 (pa_cons (pv 1) (pa_cons pe_int pa_nil))) pa_nil)) (pe_call GC hr2 rfl G.calls.M G.calls.F.kp G.calls.B .nil pass0 (pa_cons (pv 1) (pa_cons pe_int (pa_cons pe_int pa_nil))))))
      (pss_cons (ps_par (i := 11) (j := 12) (by rfl) scLaw.nd rfl rfl (by decide) rfl rfl (pa_cons (pe_call GV hr1 rfl G.vd.M G.vd.F.kp G.vd.B .nil pass0 (pa_cons (pv 2) (pa_cons (pv 10) pa_nil))) (pa_cons (pe_call GV hr1 rfl G.vd.M G.vd.F.kp G.vd.B .nil pass0 (pa_cons (pv 3) (pa_cons (pv 10) pa_nil))) pa_nil)) (by rfl))
      (pss_cons (ps_if (PW.pt (pw_or (pt_cmpR op_ne (pe_meth (E := E0) (pv 4) TC.cl G.mVer GVer hr2 G.bVer .nil pass0 (pa_cons (pv 10) pa_nil)) (pv 11) (nomark _)) (pw_or1 (pt_cmpR op_ne (pe_meth (E := E0) (pv 5) TC.cl G.mVer GVer hr2 G.bVer .nil pass0 (pa_cons (pe_callTy call_tuple_of (by rfl) T.tup_ boot_tuple' (pa_cons (pv 10) pa_nil)) pa_nil)) (pv 12) (nomark _))))) pss_never pss_nil)
      (pss_cons (ps_if (pt_cmpR (op_neD hr.units) (pe_call GA hr1 rfl G.al.M G.al.F.kp G.al.B .nil pass0 (pa_cons (pe_meth (E := E0) (pv 6) TC.cl G.mVer GVer hr2 G.bVer .nil pass0 (pa_cons (pv 10) pa_nil)) pa_nil)) (pe_call GDu hr2 rfl G.due.M G.due.F.kp G.due.B .nil pass0 (pa_cons (pv 11) (pa_cons (pv 12) (pa_cons pe_str pa_nil)))) (nomark _)) pss_never pss_nil)
      (pss_cons (ps_if (pt_cmpR (op_neD hr.units) (pe_call GA hr1 rfl G.al.M G.al.F.kp G.al.B .nil pass0 (pa_cons (pe_meth (E := E0) (pv 7) TC.cl G.mVer GVer hr2 G.bVer .nil pass0 (pa_cons (pv 10) pa_nil)) pa_nil)) (pe_call GDu hr2 rfl G.due.M G.due.F.kp G.due.B .nil pass0 (pa_cons (pv 11) (pa_cons (pv 12) (pa_cons pe_str pa_nil)))) (nomark _)) pss_never pss_nil)
      (pss_one (ps_if (pt_cmpR (op_neD hr.units) (pe_call GA hr1 rfl G.al.M G.al.F.kp G.al.B .nil pass0 (pa_cons (pe_meth (E := E0) (pv 8) TC.cl G.mVer GVer hr2 G.bVer .nil pass0 (pa_cons (pv 10) pa_nil)) pa_nil)) (pe_call GDu hr2 rfl G.due.M G.due.F.kp G.due.B .nil pass0 (pa_cons (pv 11) (pa_cons (pv 11) (pa_cons pe_str pa_nil)))) (nomark _)) pss_never pss_nil))))))))
      (pss_one (ps_ret (pe_call GSame hr4 rfl G.same.M G.same.F.kp G.same.B .nil pass0 (pa_cons (pe_tup (pa_cons (pe_fld (pv 4) rfl) (pa_cons (pe_fld (pv 5) rfl) pa_nil))) (pa_cons (pe_tup (pa_cons (pe_callTy call_tuple_of (by rfl) T.tup_ boot_tuple' (pa_cons (pv 2) pa_nil)) (pa_cons (pe_callTy call_tuple_of (by rfl) T.tup_ boot_tuple' (pa_cons (pv 3) pa_nil)) pa_nil))) pa_nil))))))))))), ?_⟩
    refine ⟨_, rfl, a, ns, rfl, hS, hlen, fun sa sl H1 S1 _ _ _ => ?_⟩
    refine ⟨_, rfl, sa, sl, 0, 6, rfl, S1, by decide, by decide, by decide, fun L1 refs1 A n2 H2 hL1 _ L1a L1l eA gA lA S2 hn2 _ => ?_⟩
    refine ⟨_, rfl, sa, sl, n2, 6, rfl, S2, by omega, by decide, by decide, fun L2 refs2 B n3 H3 hL2 _ L2a L2l eB gB lB S3 hn3 k3 => ⟨_, _, rfl, ?_⟩⟩
    have hL1 := k3 _ _ L1a L1l hL1
    have eA := EaKp eA S2 k3
    have lA : A.length ≤ 6 := by omega
    have lB : B.length ≤ 6 := by omega
    clear S1 S2 k3 hS
    have oA := gA.okC
    have oB := gB.okC
    refine ⟨_, rfl, fun x dx nx ndx nex => mk_set (.inl hL1) (eA.imp fun c r q => .inl q) gA nx ndx nex fun H4 s4 hx4 => ⟨rfl, ?_⟩⟩
    refine ⟨_, rfl, fun y dy ny ndy ney => mk_set (.inl (s4 _ _ hL2)) ((eB.same s4).imp fun c r q => .inl q) gB ny ndy ney fun H5 s5 hy5 => ⟨rfl, _, _, rfl, ?_⟩⟩
    have hx5 := hx4.same s5
    have t5 := s4.trans s5
    obtain ⟨dx5, _, _, px5, _⟩ := id hx5
    obtain ⟨dy5, _, _, py5, _⟩ := id hy5
    refine ⟨_, rfl, _, rfl, x, y, dx5, dy5, _, _, rfl, rfl, px5, py5, x, y, A, B, rfl, hx5, hy5, oA, oB, by omega, by omega, fun r J1 H6 s6 xc1 g1 l1 hr6 => ?_⟩
    refine ⟨_, rfl, _, rfl, x, y, dx5, dy5, _, _, rfl, rfl, s6 _ _ px5, s6 _ _ py5, x, y, A, B, rfl, hx5.same s6, hy5.same s6, oA, oB, by omega, by omega, fun r2 J2 H7 s7 xc2 g2 l2 hr7 => ?_⟩
    have s67 := s6.trans s7
    refine ⟨_, rfl, x, dx5, _, rfl, s67 _ _ px5, x, A, rfl, hx5.same s67, oA, by omega, fun r3 J3 H8 s8 xc3 g3 l3 hr8 => ⟨_, _, _, rfl, ?_⟩⟩
    have s58 := s67.trans s8
    have t8 := t5.trans s58
    have hx8 := hx5.same s58
    have hy8 := hy5.same s58
    have h1r := (hr6.same s7).same s8
    have h2r := hr7.same s8
    have hL1 := t8 _ _ hL1
    have hL2 := t8 _ _ hL2
    have eA := eA.same t8
    have eB := eB.same t8
    have S8 := S3.same t8
    clear hx4 hx5 hy5 px5 py5 hr6 hr7 s4 s5 s6 s7 s8 s67 s58 t5 t8 S3
    obtain ⟨e1, T1, r1, p1, hT1, eT1⟩ := id h1r
    obtain ⟨e2, T2, r2', p2, hT2, eT2⟩ := id h2r
    obtain ⟨e3, T3, r3', p3, hT3, eT3⟩ := id hr8
    refine ⟨_, rfl, _, rfl, _, rfl, r, C, e1, _, _, rfl, p1, TC.cl, TC.nR, rsf_rows T1, L1, L2, T1, refs1, refs2, r1, A, B, J1, _, _, rfl, hL1, eA, hL2, eB, hT1, eT1, oA, oB, g1, by omega, by omega, by omega, .inl ⟨rfl, rfl⟩, xc1, fun H9 s9 => ⟨_, rfl, iteF ?_⟩⟩
    refine ⟨_, rfl, _, rfl, _, rfl, r2, C, e2, _, _, rfl, s9 _ _ p2, TC.cl, TC.nR, rsf_rows T2, L1, L2, T2, refs1, refs2, r2', A, B, J2, _, _, rfl, s9 _ _ hL1, eA.same s9, s9 _ _ hL2, eB.same s9, s9 _ _ hT2, eT2.same s9, oA, oB, g2, by omega, by omega, by omega, .inr (.inl ⟨rfl, rfl⟩), xc2, fun H10 s10 => ⟨_, rfl, iteF ?_⟩⟩
    have t10 := s9.trans s10
    refine ⟨_, rfl, _, rfl, _, rfl, r3, C, e3, _, _, rfl, t10 _ _ p3, TC.cl, TC.nR, rsf_rows T3, L1, L1, T3, refs1, refs1, r3', A, A, J3, _, _, rfl, t10 _ _ hL1, eA.same t10, t10 _ _ hL1, eA.same t10, t10 _ _ hT3, eT3.same t10, oA, oA, g3, by omega, by omega, by omega, .inr (.inr ⟨rfl, rfl⟩), xc3, fun H11 s11 => ⟨_, rfl, iteF ?_⟩⟩
    have t11 := t10.trans s11
    refine ⟨_, rfl, _, rfl, _, rfl, r3, e3, _, rfl, t11 _ _ p3, r3, J3, rfl, hr8.same t11, g3, by omega, fun r4 J4 H12 s12 xc4 g4 l4 hr12 => ?_⟩
    have t12 := t11.trans s12
    obtain ⟨e4, T4, r4', p4, hT4, eT4⟩ := id hr12
    refine ⟨r4, C, e4, _, _, rfl, p4, TC.cl, TC.nR, rsf_rows T4, L1, L1, T4, refs1, refs1, r4', A, A, J4, _, _, rfl, t12 _ _ hL1, eA.same t12, t12 _ _ hL1, eA.same t12, hT4, eT4, oA, oA, g4, by omega, by omega, by omega, .inl ⟨rfl, rfl⟩, xc_twice oA g3 xc3 xc4, fun H13 s13 => ⟨_, rfl, iteF ?_⟩⟩
    have t13 := t12.trans s13
    have hx13 := hx8.same t13
    have hy13 := hy8.same t13
    have h1 := h1r.same t13
    have h2 := h2r.same t13
    have h3 := hr8.same t13
    have hL1 := t13 _ _ hL1
    have hL2 := t13 _ _ hL2
    have eA := eA.same t13
    have eB := eB.same t13
    have S13 := S8.same t13
    clear hx8 hy8 h1r h2r hr8 S8 s9 s10 s11 s12 s13 t10 t11 t12 t13 p1 hT1 eT1 p2 hT2 eT2 p3 hT3 eT3 p4 hT4 eT4
    refine ⟨10, rfl, by decide, by decide, ?_⟩
    refine for_range (n := 10) (fun i σ' H' => ∃ x9 x10 x11 x12 n', σ' = [some (V.ref a), some (.ref sa), some (.ref L1), some (.ref L2), some (.ref x), some (.ref y), some (.ref r), some (.ref r2), some (.ref r3), x9, x10, x11, x12] ∧ n' ≤ 500 + 100 * i ∧ StreamAt H' sa sl n' ∧ Keep sa sl H13 H') ?_ ?_ ?_
    · exact ⟨none, none, none, none, n3, rfl, by omega, S13, Keep.refl _ _ _⟩
    · rintro i _ H14 hi ⟨x9, x10, x11, x12, n14, rfl, hn14, S14, k14⟩
      refine ⟨_, rfl, sa, sl, n14, 2, rfl, S14, by omega, by decide, sm48 (by decide) (by decide), fun z H15 z0 z1 S15 k15 => ?_⟩
      refine ⟨by show 1 ≤ sizeLine; decide, fun D hD => ?_⟩
      have eD := new_ (o := .lst [V.int z]) hD
      obtain ⟨Da, Dl⟩ := S15.ne hD
      refine ⟨_, rfl, sa, sl, n14 + 1, 2, 29, rfl, S15.same eD, by omega, by decide, by decide, by decide, by decide, fun Cc zs n16 H16 hC16 _ Ca Cl hz29 S16 hn16 k16 => ?_⟩
      have hn16 : n16 ≤ n14 + 1 + 59 := hn16
      have hD16 := k16 _ _ Da Dl (upd_same : (upd H15 D (.lst [V.int z])) D = some (.lst [V.int z]))
      refine ⟨D, Cc, _, _, rfl, rfl, hD16, hC16, by simp; exact Nat.le_trans (by omega : 1 + zs.length ≤ 30) (by decide), fun W hW => ?_⟩
      have eW := new_ (o := .lst ([V.int z] ++ zs.map V.int)) hW
      have hW17 : (upd H16 W (.lst ([V.int z] ++ zs.map V.int))) W = some (.lst ((z :: zs).map V.int)) := upd_same
      have S17 := S16.same eW
      have k17 := (((k14.trans k15).trans (Keep.of eD)).trans k16).trans (Keep.of eW)
      generalize (upd H16 W (.lst ([V.int z] ++ zs.map V.int))) = H17 at eW hW17 S17 k17 ⊢
      have hz1 : (z :: zs).length ≤ 1000 := by rw [List.length_cons]; omega
      have hne : (z :: zs) ≠ [] := by simp
      generalize (z :: zs) = ws at hW17 hz1 hne
      have hL17 := k17 _ _ L1a L1l hL1
      have hL27 := k17 _ _ L2a L2l hL2
      refine ⟨_, rfl, _, rfl, L1, W, refs1, A, ws, rfl, hL17, EaKp eA S13 k17, oA, hW17, hne, hz1, ?_⟩
      refine ⟨_, rfl, _, rfl, L2, W, refs2, B, ws, rfl, hL27, EaKp eB S13 k17, oB, hW17, hne, hz1, _, _, rfl, ?_⟩
      have hx17 := hx13.kp S13 k17
      have hy17 := hy13.kp S13 k17
      have h1 := h1.kp S13 k17
      have h2 := h2.kp S13 k17
      have h3 := h3.kp S13 k17
      have v1 := vnum_xc xc1 oA oB g1 ws
      have v2 := vnum_xc xc2 oA oB g2 ws
      have v3 := vnum_xc xc3 oA oA g3 ws
      have w1 := vnum_lt oA ws
      have w2 := vnum_lt oB ws
      have w3 := vnum_lt g1 ws
      have w4 := vnum_lt g2 ws
      have w5 := vnum_lt g3 ws
      have fin : ∀ H', Same H17 H' → ∃ y9 y10 y11 y12 n', [some (V.ref a), some (.ref sa), some (.ref L1), some (.ref L2), some (.ref x), some (.ref y), some (.ref r), some (.ref r2), some (.ref r3), some (.int (0 + (i : Int))), some (.ref W), some (.str (vt (vnum A ws))), some (.str (vt (vnum B ws)))] = [some (V.ref a), some (.ref sa), some (.ref L1), some (.ref L2), some (.ref x), some (.ref y), some (.ref r), some (.ref r2), some (.ref r3), y9, y10, y11, y12] ∧ n' ≤ 500 + 100 * (i + 1) ∧ StreamAt H' sa sl n' ∧ Keep sa sl H13 H' :=
        fun H' s' => ⟨_, _, _, _, n16, rfl, by omega, S17.same s', k17.trans (Keep.of s')⟩
      obtain ⟨dx, _, _, px, _⟩ := id hx17
      obtain ⟨dy, _, _, py, _⟩ := id hy17
      obtain ⟨dr1, _, _, pr1, _⟩ := id h1
      obtain ⟨dr2, _, _, pr2, _⟩ := id h2
      obtain ⟨dr3, _, _, pr3, _⟩ := id h3
      refine ⟨_, rfl, x, dx, _, rfl, px, rsf_no _ (by decide +kernel), _, rfl, x, W, A, ws, rfl, hx17, oA, .inl (SqL.of hW17), hz1, fun H18 s18 => ⟨_, rfl, rfl, _, rfl, iteNS rfl ?_⟩⟩
      refine ⟨_, rfl, y, dy, _, rfl, s18 _ _ py, rsf_no _ (by decide +kernel), _, rfl, W, _, rfl, .inl ⟨SqL.of (s18 _ _ hW17), fun u hu => ?_⟩⟩
      have eu := new_ (o := .tup (ws.map V.int)) hu
      have q18 := s18.trans eu
      refine ⟨y, u, B, ws, rfl, hy17.same q18, oB, .inr (SqT.of upd_same), hz1, fun H19 s19 => ⟨_, rfl, rfl, _, rfl, iteNS rfl ?_⟩⟩
      have q19 := q18.trans s19
      -- and
      refine ⟨_, rfl, r, dr1, _, rfl, q19 _ _ pr1, rsf_no _ (by decide +kernel), _, rfl, r, W, J1, ws, rfl, h1.same q19, g1, .inl (SqL.of (q19 _ _ hW17)), hz1, fun H20 s20 => ?_⟩
      refine ⟨vnum J1 ws, rfl, w3, fun ta H21 s21 hta => ?_⟩
      refine ⟨_, rfl, _, rfl, vnum A ws, vnum B ws, _, _, rfl, w1, w2, .inl ⟨rfl, rfl⟩, fun tb H22 s22 htb => ?_⟩
      rw [← v1] at htb
      refine ⟨_, _, bb_dp (s22 _ _ hta), bb_dp htb, bb_sh _, bb_sh _, _, rfl, ?_⟩
      rw [bb_eq]
      refine iteF ?_
      have q22 := ((q19.trans s20).trans s21).trans s22
      -- or
      refine ⟨_, rfl, r2, dr2, _, rfl, q22 _ _ pr2, rsf_no _ (by decide +kernel), _, rfl, r2, W, J2, ws, rfl, h2.same q22, g2, .inl (SqL.of (q22 _ _ hW17)), hz1, fun H23 s23 => ?_⟩
      refine ⟨vnum J2 ws, rfl, w4, fun tc H24 s24 htc => ?_⟩
      refine ⟨_, rfl, _, rfl, vnum A ws, vnum B ws, _, _, rfl, w1, w2, .inr (.inl ⟨rfl, rfl⟩), fun td H25 s25 htd => ?_⟩
      rw [← v2] at htd
      refine ⟨_, _, bb_dp (s25 _ _ htc), bb_dp htd, bb_sh _, bb_sh _, _, rfl, ?_⟩
      rw [bb_eq]
      refine iteF ?_
      have q25 := ((q22.trans s23).trans s24).trans s25
      -- not
      refine ⟨_, rfl, r3, dr3, _, rfl, q25 _ _ pr3, rsf_no _ (by decide +kernel), _, rfl, r3, W, J3, ws, rfl, h3.same q25, g3, .inl (SqL.of (q25 _ _ hW17)), hz1, fun H26 s26 => ?_⟩
      refine ⟨vnum J3 ws, rfl, w5, fun te H27 s27 hte => ?_⟩
      refine ⟨_, rfl, _, rfl, vnum A ws, vnum A ws, _, _, rfl, w1, w1, .inr (.inr ⟨rfl, rfl⟩), fun tf H28 s28 htf => ?_⟩
      rw [← v3] at htf
      refine ⟨_, _, bb_dp (s28 _ _ hte), bb_dp htf, bb_sh _, bb_sh _, _, rfl, ?_⟩
      rw [bb_eq]
      exact iteF (fin H28 (((q25.trans s26).trans s27).trans s28))
    rintro _ H14 ⟨x9, x10, x11, x12, n14, rfl, _, S14, k14⟩
    have hx14 := hx13.kp S13 k14
    have hy14 := hy13.kp S13 k14
    have hL1 := k14 _ _ L1a L1l hL1
    have hL2 := k14 _ _ L2a L2l hL2
    have eA := EaKp eA S13 k14
    have eB := EaKp eB S13 k14
    obtain ⟨dx, Tx, rx, px, hTx, eTx⟩ := id hx14
    obtain ⟨dy, Ty, ry, py, hTy, eTy⟩ := id hy14
    refine ⟨_, rfl, x, C, dx, _, _, rfl, px, TC.cl, TC.nR, rsf_rows Tx, _, rfl, y, C, dy, _, _, rfl, py, TC.cl, TC.nR, rsf_rows Ty, by show 2 ≤ sizeLine; decide, fun u1 hu1 => ?_⟩
    have f1 := new_ (o := .tup [V.ref Tx, .ref Ty]) hu1
    have m1 : (upd H14 u1 (.tup [V.ref Tx, .ref Ty])) u1 = some (.tup [V.ref Tx, .ref Ty]) := upd_same
    generalize (upd H14 u1 (.tup [V.ref Tx, .ref Ty])) = H15 at f1 m1 ⊢
    refine ⟨_, rfl, L1, _, rfl, .inl ⟨SqL.of (f1 _ _ hL1), fun u2 hu2 => ?_⟩⟩
    have f2 := new_ (o := .tup refs1) hu2
    have m2 : (upd H15 u2 (.tup refs1)) u2 = some (.tup refs1) := upd_same
    have m1 := f2 _ _ m1
    have f12 := f1.trans f2
    generalize (upd H15 u2 (.tup refs1)) = H16 at f2 m2 m1 f12 ⊢
    refine ⟨_, rfl, L2, _, rfl, .inl ⟨SqL.of (f12 _ _ hL2), fun u3 hu3 => ?_⟩⟩
    have f3 := new_ (o := .tup refs2) hu3
    have m3 : (upd H16 u3 (.tup refs2)) u3 = some (.tup refs2) := upd_same
    have m2 := f3 _ _ m2
    have m1 := f3 _ _ m1
    have f13 := f12.trans f3
    generalize (upd H16 u3 (.tup refs2)) = H17 at f3 m3 m2 m1 f13 ⊢
    refine ⟨by show 2 ≤ sizeLine; decide, fun u4 hu4 => ?_⟩
    have f4 := new_ (o := .tup [V.ref u2, .ref u3]) hu4
    have f14 := f13.trans f4
    refine ⟨_, _, rfl, .tup (SqT.of (f4 _ _ m1)) (SqT.of upd_same) rfl (by show 2 ≤ sizeLine; decide) fun i x' y' hx' hy' => ?_, fun H20 s20 => kk _⟩
    rcases i with _ | _ | i
    · cases hx'
      cases hy'
      exact two_cr (f14 _ _ hTx) (f4 _ _ m2) (eTx.same f14) (eA.same f14) gA.most
    · cases hx'
      cases hy'
      exact two_cr (f14 _ _ hTy) (f4 _ _ m3) (eTy.same f14) (eB.same f14) gB.most
    · cases hx'
end
end PA

set_option maxHeartbeats 8000000
namespace PA
open PySem L2 RZ
theorem kit_self {K : PySem.W.Frag} {C : Addr} : PySem.W.kitOne K (.ref C) (.ref C) = some true := by
  unfold PySem.W.kitOne
  rw [if_pos (by simp)]
theorem kit_2 {K : PySem.W.Frag} {C D : Addr} (h1 : (Value.ref D == Value.ref C) = false) (h2 : PySem.W.isClsIn K C = true) (h3 : PySem.W.typeIn K (.ref C) = some (.type "type")) (h4 : PySem.W.subIn K (.ref D) (.ref C) = some false) : PySem.W.kitOne K (.ref D) (.ref C) = some false := by
  have e2 : ((PySem.W.clsIn K C).isSome && PySem.W.typeIn K (.ref C) == some (.type "type")) = true := by
    have h2' : (PySem.W.clsIn K C).isSome = true := h2
    rw [h2', h3] <;> rfl
  unfold PySem.W.kitOne
  rw [h1, if_neg (by simp)]
  show (if ((PySem.W.clsIn K C).isSome && PySem.W.typeIn K (.ref C) == some (.type "type")) = true then PySem.W.subIn K (.ref D) (.ref C) else none) = some false
  rw [if_pos e2]
  exact h4
theorem exm_2 {K : PySem.W.Frag} {S P : Addr} (h1 : PySem.W.subIn K (.ref P) (.type "BaseException") = some true) (h2 : PySem.W.isClsIn K P = true) (h3 : PySem.W.typeIn K (.ref P) = some (.type "type")) (h4 : PySem.W.subIn K (.ref S) (.ref P) = some true) :
    PySem.W.exmOne K (.ref S) (.ref P) = some true := by
  have e2 : ((PySem.W.clsIn K P).isSome && PySem.W.typeIn K (.ref P) == some (.type "type")) = true := by
    have h2' : (PySem.W.clsIn K P).isSome = true := h2
    rw [h2', h3] <;> rfl
  unfold PySem.W.exmOne
  rw [h1, if_pos (by simp)]
  show (if ((PySem.W.clsIn K P).isSome && PySem.W.typeIn K (.ref P) == some (.type "type")) = true then PySem.W.subIn K (.ref S) (.ref P) else none) = some true
  rw [if_pos e2]
  exact h4
theorem kit_cls {K : PySem.W.Frag} {C : Addr} {t : String} (h2 : PySem.W.isClsIn K C = true) (h3 : PySem.W.typeIn K (.ref C) = some (.type "type")) (h4 : PySem.W.subIn K (.type t) (.ref C) = some false) : PySem.W.kitOne K (.type t) (.ref C) = some false := by
  have e2 : ((PySem.W.clsIn K C).isSome && PySem.W.typeIn K (.ref C) == some (.type "type")) = true := by
    have h2' : (PySem.W.clsIn K C).isSome = true := h2
    rw [h2', h3] <;> rfl
  unfold PySem.W.kitOne
  rw [if_neg (by simp)]
  show (if ((PySem.W.clsIn K C).isSome && PySem.W.typeIn K (.ref C) == some (.type "type")) = true then PySem.W.subIn K (.type t) (.ref C) else none) = some false
  rw [if_pos e2]
  exact h4

theorem all_mk {l : PySem.W.OpenLaw} {w : World} {K : PySem.W.Frag} {h : Heap} {mg : Str → Option Value} {fa C gCI Fo gFI DV gAnd gOr gInv gVer gisInt gbelow gisRow gcheck gafter glr gnum gfol gjoin gdraw gstart gpick gsame gcalls gmc gal gdue gexact gvd glf1 glf2 glf3 glf4 glf5 glf6 glf7 gLaw : Addr} (X_ : K.In h) (G : h.Ns mainGlobals mg) (hfa : mg "law" = some (.ref fa))
    {ocCI kVCI dcCI pmCI cdCI ctCI : Value} {odCI anCI : Option Addr} {slCI : Array (Option Value)} {ocFI kVFI dcFI pmFI cdFI ctFI : Value} {odFI anFI : Option Addr} {slFI : Array (Option Value)} {tkM tkL tkO t0 t1 t2 t3 : Tok} {mV : Nat} {slV : Array (Option Value)} {ocAnd kVAnd dcAnd pmAnd cdAnd ctAnd : Value} {odAnd anAnd : Option Addr} {slAnd : Array (Option Value)} {ocOr kVOr dcOr pmOr cdOr ctOr : Value} {odOr anOr : Option Addr} {slOr : Array (Option Value)} {ocInv kVInv dcInv pmInv cdInv ctInv : Value} {odInv anInv : Option Addr} {slInv : Array (Option Value)} {ocVer kVVer dcVer pmVer cdVer ctVer : Value} {odVer anVer : Option Addr} {slVer : Array (Option Value)} {ocisInt kVisInt dcisInt pmisInt cdisInt ctisInt : Value} {odisInt anisInt : Option Addr} {slisInt : Array (Option Value)} {ocbelow kVbelow dcbelow pmbelow cdbelow ctbelow : Value} {odbelow anbelow : Option Addr} {slbelow : Array (Option Value)} {ocisRow kVisRow dcisRow pmisRow cdisRow ctisRow : Value} {odisRow anisRow : Option Addr} {slisRow : Array (Option Value)} {occheck kVcheck dccheck pmcheck cdcheck ctcheck : Value} {odcheck ancheck : Option Addr} {slcheck : Array (Option Value)} {ocafter kVafter dcafter pmafter cdafter ctafter : Value} {odafter anafter : Option Addr} {slafter : Array (Option Value)} {oclr kVlr dclr pmlr cdlr ctlr : Value} {odlr anlr : Option Addr} {sllr : Array (Option Value)} {ocnum kVnum dcnum pmnum cdnum ctnum : Value} {odnum annum : Option Addr} {slnum : Array (Option Value)} {ocfol kVfol dcfol pmfol cdfol ctfol : Value} {odfol anfol : Option Addr} {slfol : Array (Option Value)} {ocjoin kVjoin dcjoin pmjoin cdjoin ctjoin : Value} {odjoin anjoin : Option Addr} {sljoin : Array (Option Value)} {ocdraw kVdraw dcdraw pmdraw cddraw ctdraw : Value} {oddraw andraw : Option Addr} {sldraw : Array (Option Value)} {ocstart kVstart dcstart pmstart cdstart ctstart : Value} {odstart anstart : Option Addr} {slstart : Array (Option Value)} {ocpick kVpick dcpick pmpick cdpick ctpick : Value} {odpick anpick : Option Addr} {slpick : Array (Option Value)} {ocsame kVsame dcsame pmsame cdsame ctsame : Value} {odsame ansame : Option Addr} {slsame : Array (Option Value)} {occalls kVcalls dccalls pmcalls cdcalls ctcalls : Value} {odcalls ancalls : Option Addr} {slcalls : Array (Option Value)} {ocmc kVmc dcmc pmmc cdmc ctmc : Value} {odmc anmc : Option Addr} {slmc : Array (Option Value)} {ocal kVal dcal pmal cdal ctal : Value} {odal anal : Option Addr} {slal : Array (Option Value)} {ocdue kVdue dcdue pmdue cddue ctdue : Value} {oddue andue : Option Addr} {sldue : Array (Option Value)} {ocexact kVexact dcexact pmexact cdexact ctexact : Value} {odexact anexact : Option Addr} {slexact : Array (Option Value)} {ocvd kVvd dcvd pmvd cdvd ctvd : Value} {odvd anvd : Option Addr} {slvd : Array (Option Value)} {oclf1 kVlf1 dclf1 pmlf1 cdlf1 ctlf1 : Value} {odlf1 anlf1 : Option Addr} {sllf1 : Array (Option Value)} {oclf2 kVlf2 dclf2 pmlf2 cdlf2 ctlf2 : Value} {odlf2 anlf2 : Option Addr} {sllf2 : Array (Option Value)} {oclf3 kVlf3 dclf3 pmlf3 cdlf3 ctlf3 : Value} {odlf3 anlf3 : Option Addr} {sllf3 : Array (Option Value)} {oclf4 kVlf4 dclf4 pmlf4 cdlf4 ctlf4 : Value} {odlf4 anlf4 : Option Addr} {sllf4 : Array (Option Value)} {oclf5 kVlf5 dclf5 pmlf5 cdlf5 ctlf5 : Value} {odlf5 anlf5 : Option Addr} {sllf5 : Array (Option Value)} {oclf6 kVlf6 dclf6 pmlf6 cdlf6 ctlf6 : Value} {odlf6 anlf6 : Option Addr} {sllf6 : Array (Option Value)} {oclf7 kVlf7 dclf7 pmlf7 cdlf7 ctlf7 : Value} {odlf7 anlf7 : Option Addr} {sllf7 : Array (Option Value)} {ocLaw kVLaw dcLaw pmLaw cdLaw ctLaw : Value} {odLaw anLaw : Option Addr} {slLaw : Array (Option Value)}
    (aC : PySem.W.nsIn K mainGlobals "Claim" = some (some (.ref C)))
    (pgC : PySem.W.plainGet K C Str.empty = true)
    (hdC : PySem.W.hasDictIn K C = true)
    (poC : PySem.W.plainOver K C = true)
    (saC : PySem.W.findIn K (.ref C) "__setattr__" = some (some (.builtin "object.__setattr__")))
    (kcC : PySem.W.keepIn K (.ref C) = true)
    (mkC : PySem.W.makesIn K C = true)
    (nCrows : PySem.W.findIn K (.ref C) "rows" = some none)
    (aCI : PySem.W.findIn K (.ref C) "__init__" = some (some (.ref gCI)))
    (lCI : K.lookup gCI = some ⟨ocCI, odCI, .func (PySem.W.fnOf "__init__" "Claim.__init__" (defArgs sInit) (defBody sInit) (defScope sInit) .none kVCI dcCI pmCI anCI cdCI ctCI), slCI⟩)
    (cCI : PySem.W.codeIn K cdCI "Claim.__init__" = true)
    (kCI : PySem.W.keepIn K (.ref gCI) = true)
    (iCI : PySem.W.isFn K (.ref gCI) = true)
    (aFo : PySem.W.nsIn K mainGlobals "Found" = some (some (.ref Fo)))
    (pgFo : PySem.W.plainGet K Fo Str.empty = true)
    (hdFo : PySem.W.hasDictIn K Fo = true)
    (poFo : PySem.W.plainOver K Fo = true)
    (saFo : PySem.W.findIn K (.ref Fo) "__setattr__" = some (some (.builtin "object.__setattr__")))
    (kcFo : PySem.W.keepIn K (.ref Fo) = true)
    (mkFo : PySem.W.makesIn K Fo = true)
    (nForows : PySem.W.findIn K (.ref Fo) "rows" = some none)
    (aFI : PySem.W.findIn K (.ref Fo) "__init__" = some (some (.ref gFI)))
    (lFI : K.lookup gFI = some ⟨ocFI, odFI, .func (PySem.W.fnOf "__init__" "Found.__init__" (defArgs sFInit) (defBody sFInit) (defScope sFInit) .none kVFI dcFI pmFI anFI cdFI ctFI), slFI⟩)
    (cFI : PySem.W.codeIn K cdFI "Found.__init__" = true)
    (kFI : PySem.W.keepIn K (.ref gFI) = true)
    (iFI : PySem.W.isFn K (.ref gFI) = true)
    (iCF : PySem.W.isClsIn K Fo = true)
    (tCF : PySem.W.typeIn K (.ref Fo) = some (.type "type"))
    (sLF : PySem.W.subIn K (.type "list") (.ref Fo) = some false)
    (sTF : PySem.W.subIn K (.type "tuple") (.ref Fo) = some false)
    (zisinstance : PySem.W.nsIn K mainGlobals "isinstance" = some none)
    (zint : PySem.W.nsIn K mainGlobals "int" = some none)
    (zbool : PySem.W.nsIn K mainGlobals "bool" = some none)
    (zlist : PySem.W.nsIn K mainGlobals "list" = some none)
    (ztuple : PySem.W.nsIn K mainGlobals "tuple" = some none)
    (zlen : PySem.W.nsIn K mainGlobals "len" = some none)
    (zall : PySem.W.nsIn K mainGlobals "all" = some none)
    (zzip : PySem.W.nsIn K mainGlobals "zip" = some none)
    (zrange : PySem.W.nsIn K mainGlobals "range" = some none)
    (zenumerate : PySem.W.nsIn K mainGlobals "enumerate" = some none)
    (aMost : PySem.W.nsIn K mainGlobals "MOST_ROWS" = some (some (.int 48 tkM)))
    (aLast : PySem.W.nsIn K mainGlobals "LAST" = some (some (.int 1 tkL)))
    (aOther : PySem.W.nsIn K mainGlobals "OTHER" = some (some (.int 2 tkO)))
    (aV : PySem.W.nsIn K mainGlobals "VERDICTS" = some (some (.ref DV)))
    (lV : K.lookup DV = some ⟨.type "tuple", none, .seq #[.str "none" t0, .str "last" t1, .str "other" t2, .str "free" t3] mV, slV⟩)
    (q1 : PySem.W.findIn K (.ref C) "__class__" = some (some (.builtin "object.__class__")))
    (q2 : PySem.W.specialIn K (.builtin "object.__class__") "__get__" = some (some (.builtin "getset_descriptor.__get__")))
    (q3 : PySem.W.takesIn K (.builtin "object.__class__") = some true)
    (q4 : PySem.W.mroIn K C (.type "object") = some true)
    (q1F : PySem.W.findIn K (.ref Fo) "__class__" = some (some (.builtin "object.__class__")))
    (q4F : PySem.W.mroIn K Fo (.type "object") = some true)
    (sf : PySem.W.selfFirst K C = true)
    (aAnd : PySem.W.findIn K (.ref C) "__and__" = some (some (.ref gAnd)))
    (lAnd : K.lookup gAnd = some ⟨ocAnd, odAnd, .func (PySem.W.fnOf "__and__" "Claim.__and__" (defArgs sAnd) (defBody sAnd) (defScope sAnd) .none kVAnd dcAnd pmAnd anAnd cdAnd ctAnd), slAnd⟩)
    (cAnd : PySem.W.codeIn K cdAnd "Claim.__and__" = true)
    (kAnd : PySem.W.keepIn K (.ref gAnd) = true)
    (iAnd : PySem.W.isFn K (.ref gAnd) = true)
    (aOr : PySem.W.findIn K (.ref C) "__or__" = some (some (.ref gOr)))
    (lOr : K.lookup gOr = some ⟨ocOr, odOr, .func (PySem.W.fnOf "__or__" "Claim.__or__" (defArgs sOr) (defBody sOr) (defScope sOr) .none kVOr dcOr pmOr anOr cdOr ctOr), slOr⟩)
    (cOr : PySem.W.codeIn K cdOr "Claim.__or__" = true)
    (kOr : PySem.W.keepIn K (.ref gOr) = true)
    (iOr : PySem.W.isFn K (.ref gOr) = true)
    (aInv : PySem.W.findIn K (.ref C) "__invert__" = some (some (.ref gInv)))
    (lInv : K.lookup gInv = some ⟨ocInv, odInv, .func (PySem.W.fnOf "__invert__" "Claim.__invert__" (defArgs sInv) (defBody sInv) (defScope sInv) .none kVInv dcInv pmInv anInv cdInv ctInv), slInv⟩)
    (cInv : PySem.W.codeIn K cdInv "Claim.__invert__" = true)
    (kInv : PySem.W.keepIn K (.ref gInv) = true)
    (iInv : PySem.W.isFn K (.ref gInv) = true)
    (aVer : PySem.W.findIn K (.ref C) "verdict" = some (some (.ref gVer)))
    (lVer : K.lookup gVer = some ⟨ocVer, odVer, .func (PySem.W.fnOf "verdict" "Claim.verdict" (defArgs sVer) (defBody sVer) (defScope sVer) .none kVVer dcVer pmVer anVer cdVer ctVer), slVer⟩)
    (cVer : PySem.W.codeIn K cdVer "Claim.verdict" = true)
    (kVer : PySem.W.keepIn K (.ref gVer) = true)
    (iVer : PySem.W.isFn K (.ref gVer) = true)
    (aisInt : PySem.W.nsIn K mainGlobals "is_integer" = some (some (.ref gisInt)))
    (lisInt : K.lookup gisInt = some ⟨ocisInt, odisInt, .func (PySem.W.fnOf "is_integer" "is_integer" (defArgs sIsInt) (defBody sIsInt) (defScope sIsInt) .none kVisInt dcisInt pmisInt anisInt cdisInt ctisInt), slisInt⟩)
    (cisInt : PySem.W.codeIn K cdisInt "is_integer" = true)
    (kisInt : PySem.W.keepIn K (.ref gisInt) = true)
    (abelow : PySem.W.nsIn K mainGlobals "is_below" = some (some (.ref gbelow)))
    (lbelow : K.lookup gbelow = some ⟨ocbelow, odbelow, .func (PySem.W.fnOf "is_below" "is_below" (defArgs sBelow) (defBody sBelow) (defScope sBelow) .none kVbelow dcbelow pmbelow anbelow cdbelow ctbelow), slbelow⟩)
    (cbelow : PySem.W.codeIn K cdbelow "is_below" = true)
    (kbelow : PySem.W.keepIn K (.ref gbelow) = true)
    (aisRow : PySem.W.nsIn K mainGlobals "_is_row" = some (some (.ref gisRow)))
    (lisRow : K.lookup gisRow = some ⟨ocisRow, odisRow, .func (PySem.W.fnOf "_is_row" "_is_row" (defArgs sIsRow) (defBody sIsRow) (defScope sIsRow) .none kVisRow dcisRow pmisRow anisRow cdisRow ctisRow), slisRow⟩)
    (cisRow : PySem.W.codeIn K cdisRow "_is_row" = true)
    (kisRow : PySem.W.keepIn K (.ref gisRow) = true)
    (acheck : PySem.W.nsIn K mainGlobals "_check_rows" = some (some (.ref gcheck)))
    (lcheck : K.lookup gcheck = some ⟨occheck, odcheck, .func (PySem.W.fnOf "_check_rows" "_check_rows" (defArgs sCheck) (defBody sCheck) (defScope sCheck) .none kVcheck dccheck pmcheck ancheck cdcheck ctcheck), slcheck⟩)
    (ccheck : PySem.W.codeIn K cdcheck "_check_rows" = true)
    (kcheck : PySem.W.keepIn K (.ref gcheck) = true)
    (aafter : PySem.W.nsIn K mainGlobals "state_after" = some (some (.ref gafter)))
    (lafter : K.lookup gafter = some ⟨ocafter, odafter, .func (PySem.W.fnOf "state_after" "state_after" (defArgs sAfter) (defBody sAfter) (defScope sAfter) .none kVafter dcafter pmafter anafter cdafter ctafter), slafter⟩)
    (cafter : PySem.W.codeIn K cdafter "state_after" = true)
    (kafter : PySem.W.keepIn K (.ref gafter) = true)
    (alr : PySem.W.nsIn K mainGlobals "_least_rows" = some (some (.ref glr)))
    (llr : K.lookup glr = some ⟨oclr, odlr, .func (PySem.W.fnOf "_least_rows" "_least_rows" (defArgs sLR) (defBody sLR) (defScope sLR) .none kVlr dclr pmlr anlr cdlr ctlr), sllr⟩)
    (clr : PySem.W.codeIn K cdlr "_least_rows" = true)
    (klr : PySem.W.keepIn K (.ref glr) = true)
    (anum : PySem.W.nsIn K mainGlobals "_number" = some (some (.ref gnum)))
    (lnum : K.lookup gnum = some ⟨ocnum, odnum, .func (PySem.W.fnOf "_number" "_number" (defArgs sNum) (defBody sNum) (defScope sNum) .none kVnum dcnum pmnum annum cdnum ctnum), slnum⟩)
    (cnum : PySem.W.codeIn K cdnum "_number" = true)
    (knum : PySem.W.keepIn K (.ref gnum) = true)
    (afol : PySem.W.nsIn K mainGlobals "_following" = some (some (.ref gfol)))
    (lfol : K.lookup gfol = some ⟨ocfol, odfol, .func (PySem.W.fnOf "_following" "_following" (defArgs sFol) (defBody sFol) (defScope sFol) .none kVfol dcfol pmfol anfol cdfol ctfol), slfol⟩)
    (cfol : PySem.W.codeIn K cdfol "_following" = true)
    (kfol : PySem.W.keepIn K (.ref gfol) = true)
    (ajoin : PySem.W.nsIn K mainGlobals "joined" = some (some (.ref gjoin)))
    (ljoin : K.lookup gjoin = some ⟨ocjoin, odjoin, .func (PySem.W.fnOf "joined" "joined" (defArgs sJoin) (defBody sJoin) (defScope sJoin) .none kVjoin dcjoin pmjoin anjoin cdjoin ctjoin), sljoin⟩)
    (cjoin : PySem.W.codeIn K cdjoin "joined" = true)
    (kjoin : PySem.W.keepIn K (.ref gjoin) = true)
    (adraw : PySem.W.nsIn K mainGlobals "_law_draw" = some (some (.ref gdraw)))
    (ldraw : K.lookup gdraw = some ⟨ocdraw, oddraw, .func (PySem.W.fnOf "_law_draw" "_law_draw" (defArgs sDraw) (defBody sDraw) (defScope sDraw) .none kVdraw dcdraw pmdraw andraw cddraw ctdraw), sldraw⟩)
    (cdraw : PySem.W.codeIn K cddraw "_law_draw" = true)
    (kdraw : PySem.W.keepIn K (.ref gdraw) = true)
    (astart : PySem.W.nsIn K mainGlobals "_law_start" = some (some (.ref gstart)))
    (lstart : K.lookup gstart = some ⟨ocstart, odstart, .func (PySem.W.fnOf "_law_start" "_law_start" (defArgs sStart) (defBody sStart) (defScope sStart) .none kVstart dcstart pmstart anstart cdstart ctstart), slstart⟩)
    (cstart : PySem.W.codeIn K cdstart "_law_start" = true)
    (kstart : PySem.W.keepIn K (.ref gstart) = true)
    (apick : PySem.W.nsIn K mainGlobals "_law_pick" = some (some (.ref gpick)))
    (lpick : K.lookup gpick = some ⟨ocpick, odpick, .func (PySem.W.fnOf "_law_pick" "_law_pick" (defArgs sPick) (defBody sPick) (defScope sPick) .none kVpick dcpick pmpick anpick cdpick ctpick), slpick⟩)
    (cpick : PySem.W.codeIn K cdpick "_law_pick" = true)
    (kpick : PySem.W.keepIn K (.ref gpick) = true)
    (asame : PySem.W.nsIn K mainGlobals "_law_same" = some (some (.ref gsame)))
    (lsame : K.lookup gsame = some ⟨ocsame, odsame, .func (PySem.W.fnOf "_law_same" "_law_same" (defArgs sSame) (defBody sSame) (defScope sSame) .none kVsame dcsame pmsame ansame cdsame ctsame), slsame⟩)
    (csame : PySem.W.codeIn K cdsame "_law_same" = true)
    (ksame : PySem.W.keepIn K (.ref gsame) = true)
    (acalls : PySem.W.nsIn K mainGlobals "_law_m_calls" = some (some (.ref gcalls)))
    (lcalls : K.lookup gcalls = some ⟨occalls, odcalls, .func (PySem.W.fnOf "_law_m_calls" "_law_m_calls" (defArgs sCalls) (defBody sCalls) (defScope sCalls) .none kVcalls dccalls pmcalls ancalls cdcalls ctcalls), slcalls⟩)
    (ccalls : PySem.W.codeIn K cdcalls "_law_m_calls" = true)
    (kcalls : PySem.W.keepIn K (.ref gcalls) = true)
    (amc : PySem.W.nsIn K mainGlobals "_law_m_claim" = some (some (.ref gmc)))
    (lmc : K.lookup gmc = some ⟨ocmc, odmc, .func (PySem.W.fnOf "_law_m_claim" "_law_m_claim" (defArgs sMC) (defBody sMC) (defScope sMC) .none kVmc dcmc pmmc anmc cdmc ctmc), slmc⟩)
    (cmc : PySem.W.codeIn K cdmc "_law_m_claim" = true)
    (kmc : PySem.W.keepIn K (.ref gmc) = true)
    (aal : PySem.W.nsIn K mainGlobals "_law_allowed" = some (some (.ref gal)))
    (lal : K.lookup gal = some ⟨ocal, odal, .func (PySem.W.fnOf "_law_allowed" "_law_allowed" (defArgs sAl) (defBody sAl) (defScope sAl) .none kVal dcal pmal anal cdal ctal), slal⟩)
    (cal : PySem.W.codeIn K cdal "_law_allowed" = true)
    (kal : PySem.W.keepIn K (.ref gal) = true)
    (adue : PySem.W.nsIn K mainGlobals "_law_due" = some (some (.ref gdue)))
    (ldue : K.lookup gdue = some ⟨ocdue, oddue, .func (PySem.W.fnOf "_law_due" "_law_due" (defArgs sDue) (defBody sDue) (defScope sDue) .none kVdue dcdue pmdue andue cddue ctdue), sldue⟩)
    (cdue : PySem.W.codeIn K cddue "_law_due" = true)
    (kdue : PySem.W.keepIn K (.ref gdue) = true)
    (aexact : PySem.W.nsIn K mainGlobals "_law_exact" = some (some (.ref gexact)))
    (lexact : K.lookup gexact = some ⟨ocexact, odexact, .func (PySem.W.fnOf "_law_exact" "_law_exact" (defArgs sExact) (defBody sExact) (defScope sExact) .none kVexact dcexact pmexact anexact cdexact ctexact), slexact⟩)
    (cexact : PySem.W.codeIn K cdexact "_law_exact" = true)
    (kexact : PySem.W.keepIn K (.ref gexact) = true)
    (avd : PySem.W.nsIn K mainGlobals "_law_verdict" = some (some (.ref gvd)))
    (lvd : K.lookup gvd = some ⟨ocvd, odvd, .func (PySem.W.fnOf "_law_verdict" "_law_verdict" (defArgs sVd) (defBody sVd) (defScope sVd) .none kVvd dcvd pmvd anvd cdvd ctvd), slvd⟩)
    (cvd : PySem.W.codeIn K cdvd "_law_verdict" = true)
    (kvd : PySem.W.keepIn K (.ref gvd) = true)
    (alf1 : PySem.W.nsIn K mainGlobals "least_form" = some (some (.ref glf1)))
    (llf1 : K.lookup glf1 = some ⟨oclf1, odlf1, .func (PySem.W.fnOf "least_form" "least_form" (defArgs sLeastF) (defBody sLeastF) (defScope sLeastF) .none kVlf1 dclf1 pmlf1 anlf1 cdlf1 ctlf1), sllf1⟩)
    (clf1 : PySem.W.codeIn K cdlf1 "least_form" = true)
    (klf1 : PySem.W.keepIn K (.ref glf1) = true)
    (alf2 : PySem.W.nsIn K mainGlobals "_classes" = some (some (.ref glf2)))
    (llf2 : K.lookup glf2 = some ⟨oclf2, odlf2, .func (PySem.W.fnOf "_classes" "_classes" (defArgs sClasses) (defBody sClasses) (defScope sClasses) .none kVlf2 dclf2 pmlf2 anlf2 cdlf2 ctlf2), sllf2⟩)
    (clf2 : PySem.W.codeIn K cdlf2 "_classes" = true)
    (klf2 : PySem.W.keepIn K (.ref glf2) = true)
    (alf3 : PySem.W.nsIn K mainGlobals "_split" = some (some (.ref glf3)))
    (llf3 : K.lookup glf3 = some ⟨oclf3, odlf3, .func (PySem.W.fnOf "_split" "_split" (defArgs sSplit) (defBody sSplit) (defScope sSplit) .none kVlf3 dclf3 pmlf3 anlf3 cdlf3 ctlf3), sllf3⟩)
    (clf3 : PySem.W.codeIn K cdlf3 "_split" = true)
    (klf3 : PySem.W.keepIn K (.ref glf3) = true)
    (alf4 : PySem.W.nsIn K mainGlobals "_numbered" = some (some (.ref glf4)))
    (llf4 : K.lookup glf4 = some ⟨oclf4, odlf4, .func (PySem.W.fnOf "_numbered" "_numbered" (defArgs sNumbered) (defBody sNumbered) (defScope sNumbered) .none kVlf4 dclf4 pmlf4 anlf4 cdlf4 ctlf4), sllf4⟩)
    (clf4 : PySem.W.codeIn K cdlf4 "_numbered" = true)
    (klf4 : PySem.W.keepIn K (.ref glf4) = true)
    (alf5 : PySem.W.nsIn K mainGlobals "_merged" = some (some (.ref glf5)))
    (llf5 : K.lookup glf5 = some ⟨oclf5, odlf5, .func (PySem.W.fnOf "_merged" "_merged" (defArgs sMerged) (defBody sMerged) (defScope sMerged) .none kVlf5 dclf5 pmlf5 anlf5 cdlf5 ctlf5), sllf5⟩)
    (clf5 : PySem.W.codeIn K cdlf5 "_merged" = true)
    (klf5 : PySem.W.keepIn K (.ref glf5) = true)
    (alf6 : PySem.W.nsIn K mainGlobals "_renumbered" = some (some (.ref glf6)))
    (llf6 : K.lookup glf6 = some ⟨oclf6, odlf6, .func (PySem.W.fnOf "_renumbered" "_renumbered" (defArgs sRenum) (defBody sRenum) (defScope sRenum) .none kVlf6 dclf6 pmlf6 anlf6 cdlf6 ctlf6), sllf6⟩)
    (clf6 : PySem.W.codeIn K cdlf6 "_renumbered" = true)
    (klf6 : PySem.W.keepIn K (.ref glf6) = true)
    (alf7 : PySem.W.nsIn K mainGlobals "_visit_numbers" = some (some (.ref glf7)))
    (llf7 : K.lookup glf7 = some ⟨oclf7, odlf7, .func (PySem.W.fnOf "_visit_numbers" "_visit_numbers" (defArgs sVisit) (defBody sVisit) (defScope sVisit) .none kVlf7 dclf7 pmlf7 anlf7 cdlf7 ctlf7), sllf7⟩)
    (clf7 : PySem.W.codeIn K cdlf7 "_visit_numbers" = true)
    (klf7 : PySem.W.keepIn K (.ref glf7) = true)
    (aLaw : PySem.W.nsIn K mainGlobals "law" = some (some (.ref gLaw)))
    (lLaw : K.lookup gLaw = some ⟨ocLaw, odLaw, .func (PySem.W.fnOf "law" "law" (defArgs sLaw) (defBody sLaw) (defScope sLaw) .none kVLaw dcLaw pmLaw anLaw cdLaw ctLaw), slLaw⟩)
    (cLaw : PySem.W.codeIn K cdLaw "law" = true)
    (kLaw : PySem.W.keepIn K (.ref gLaw) = true) :
    ∃ fd : FuncData, (∀ (s : Shared) (v : Value), BindsTo s fd ⟨[v], []⟩ [("_law_script", v)]) ∧ ∀ base : Heap, K.In base → base.Ns mainGlobals mg → FnOk l.prog w K mg base CX0 7 fa fd ["_law_script"] (spLaw K) := by
  have e := hfa.symm.trans (PySem.W.mg_of X_ G aLaw)
  cases e
  have FCI := fun_mk (st := sInit) lCI cCI kCI
  have bCI := FCI.binds (ps := ["self", "rows"]) fun _ _ _ _ _ _ us hl => match us, hl with | [_, _], _ => rfl
  have FFI := fun_mk (st := sFInit) lFI cFI kFI
  have bFI := FFI.binds (ps := ["self", "rows"]) fun _ _ _ _ _ _ us hl => match us, hl with | [_, _], _ => rfl
  have hdv : ∀ H, SqT K H DV (VW.map V.str) := fun H => .inr ⟨_, #[.str "none" t0, .str "last" t1, .str "other" t2, .str "free" t3], mV, lV, rfl, rfl, (by show 4 ≤ sizeLine; decide), .cons ⟨t0, rfl⟩ (.cons ⟨t1, rfl⟩ (.cons ⟨t2, rfl⟩ (.cons ⟨t3, rfl⟩ .nil)))⟩
  have FAnd := fun_mk (st := sAnd) lAnd cAnd kAnd
  have bAnd := FAnd.binds (ps := ["self", "other"]) fun _ _ _ _ _ _ us hl => match us, hl with | [_, _], _ => rfl
  have FOr := fun_mk (st := sOr) lOr cOr kOr
  have bOr := FOr.binds (ps := ["self", "other"]) fun _ _ _ _ _ _ us hl => match us, hl with | [_, _], _ => rfl
  have FInv := fun_mk (st := sInv) lInv cInv kInv
  have bInv := FInv.binds (ps := ["self"]) fun _ _ _ _ _ _ us hl => match us, hl with | [_], _ => rfl
  have FVer := fun_mk (st := sVer) lVer cVer kVer
  have bVer := FVer.binds (ps := ["self", "calls"]) fun _ _ _ _ _ _ us hl => match us, hl with | [_, _], _ => rfl
  have FisInt := fun_mk (st := sIsInt) lisInt cisInt kisInt
  have bisInt := FisInt.binds (ps := ["value"]) fun _ _ _ _ _ _ us hl => match us, hl with | [_], _ => rfl
  have Fbelow := fun_mk (st := sBelow) lbelow cbelow kbelow
  have bbelow := Fbelow.binds (ps := ["value", "count"]) fun _ _ _ _ _ _ us hl => match us, hl with | [_, _], _ => rfl
  have FisRow := fun_mk (st := sIsRow) lisRow cisRow kisRow
  have bisRow := FisRow.binds (ps := ["row", "count"]) fun _ _ _ _ _ _ us hl => match us, hl with | [_, _], _ => rfl
  have Fcheck := fun_mk (st := sCheck) lcheck ccheck kcheck
  have bcheck := Fcheck.binds (ps := ["rows"]) fun _ _ _ _ _ _ us hl => match us, hl with | [_], _ => rfl
  have Fafter := fun_mk (st := sAfter) lafter cafter kafter
  have bafter := Fafter.binds (ps := ["rows", "calls"]) fun _ _ _ _ _ _ us hl => match us, hl with | [_, _], _ => rfl
  have Flr := fun_mk (st := sLR) llr clr klr
  have blr := Flr.binds (ps := ["rows", "numbers"]) fun _ _ _ _ _ _ us hl => match us, hl with | [_, _], _ => rfl
  have Fnum := fun_mk (st := sNum) lnum cnum knum
  have bnum := Fnum.binds (ps := ["rows", "state"]) fun _ _ _ _ _ _ us hl => match us, hl with | [_, _], _ => rfl
  have Ffol := fun_mk (st := sFol) lfol cfol kfol
  have bfol := Ffol.binds (ps := ["first", "second", "pair", "at", "either"]) fun _ _ _ _ _ _ us hl => match us, hl with | [_, _, _, _, _], _ => rfl
  have Fjoin := fun_mk (st := sJoin) ljoin cjoin kjoin
  have bjoin := Fjoin.binds (ps := ["first", "second", "either"]) fun _ _ _ _ _ _ us hl => match us, hl with | [_, _, _], _ => rfl
  have Fdraw := fun_mk (st := sDraw) ldraw cdraw kdraw
  have bdraw := Fdraw.binds (ps := ["_law_stream", "_law_many"]) fun _ _ _ _ _ _ us hl => match us, hl with | [_, _], _ => rfl
  have Fstart := fun_mk (st := sStart) lstart cstart kstart
  have bstart := Fstart.binds (ps := ["_law_script"]) fun _ _ _ _ _ _ us hl => match us, hl with | [_], _ => rfl
  have Fpick := fun_mk (st := sPick) lpick cpick kpick
  have bpick := Fpick.binds (ps := ["_law_stream", "_law_some"]) fun _ _ _ _ _ _ us hl => match us, hl with | [_, _], _ => rfl
  have Fsame := fun_mk (st := sSame) lsame csame ksame
  have bsame := Fsame.binds (ps := ["_law_found", "_law_due_here"]) fun _ _ _ _ _ _ us hl => match us, hl with | [_, _], _ => rfl
  have Fcalls := fun_mk (st := sCalls) lcalls ccalls kcalls
  have bcalls := Fcalls.binds (ps := ["_law_stream", "_law_cases", "_law_most"]) fun _ _ _ _ _ _ us hl => match us, hl with | [_, _, _], _ => rfl
  have Fmc := fun_mk (st := sMC) lmc cmc kmc
  have bmc := Fmc.binds (ps := ["_law_stream", "_law_most"]) fun _ _ _ _ _ _ us hl => match us, hl with | [_, _], _ => rfl
  have Fal := fun_mk (st := sAl) lal cal kal
  have bal := Fal.binds (ps := ["_law_word"]) fun _ _ _ _ _ _ us hl => match us, hl with | [_], _ => rfl
  have Fdue := fun_mk (st := sDue) ldue cdue kdue
  have bdue := Fdue.binds (ps := ["_law_low", "_law_high", "_law_way"]) fun _ _ _ _ _ _ us hl => match us, hl with | [_, _, _], _ => rfl
  have Fexact := fun_mk (st := sExact) lexact cexact kexact
  have bexact := Fexact.binds (ps := ["_law_one", "_law_other", "_law_joint", "_law_way"]) fun _ _ _ _ _ _ us hl => match us, hl with | [_, _, _, _], _ => rfl
  have Fvd := fun_mk (st := sVd) lvd cvd kvd
  have bvd := Fvd.binds (ps := ["_law_lines", "_law_calls"]) fun _ _ _ _ _ _ us hl => match us, hl with | [_, _], _ => rfl
  have Flf1 := fun_mk (st := sLeastF) llf1 clf1 klf1
  have blf1 := Flf1.binds (ps := ["rows", "starts"]) fun _ _ _ _ _ _ us hl => match us, hl with | [_, _], _ => rfl
  have Flf2 := fun_mk (st := sClasses) llf2 clf2 klf2
  have blf2 := Flf2.binds (ps := ["rows"]) fun _ _ _ _ _ _ us hl => match us, hl with | [_], _ => rfl
  have Flf3 := fun_mk (st := sSplit) llf3 clf3 klf3
  have blf3 := Flf3.binds (ps := ["rows", "classes"]) fun _ _ _ _ _ _ us hl => match us, hl with | [_, _], _ => rfl
  have Flf4 := fun_mk (st := sNumbered) llf4 clf4 klf4
  have blf4 := Flf4.binds (ps := ["keys"]) fun _ _ _ _ _ _ us hl => match us, hl with | [_], _ => rfl
  have Flf5 := fun_mk (st := sMerged) llf5 clf5 klf5
  have blf5 := Flf5.binds (ps := ["rows", "classes"]) fun _ _ _ _ _ _ us hl => match us, hl with | [_, _], _ => rfl
  have Flf6 := fun_mk (st := sRenum) llf6 clf6 klf6
  have blf6 := Flf6.binds (ps := ["row", "numbers"]) fun _ _ _ _ _ _ us hl => match us, hl with | [_, _], _ => rfl
  have Flf7 := fun_mk (st := sVisit) llf7 clf7 klf7
  have blf7 := Flf7.binds (ps := ["rows", "starts"]) fun _ _ _ _ _ _ us hl => match us, hl with | [_, _], _ => rfl
  have PR : Prog K mg C Fo gCI gFI gAnd gOr gInv gVer gisInt gbelow gisRow gcheck gafter glr gnum gfol gjoin gdraw gstart gpick gsame gcalls gmc gal gdue gexact gvd glf1 glf2 glf3 glf4 glf5 glf6 glf7 (PySem.W.fnOf "__init__" "Claim.__init__" (defArgs sInit) (defBody sInit) (defScope sInit) .none kVCI dcCI pmCI anCI cdCI ctCI) (PySem.W.fnOf "__init__" "Found.__init__" (defArgs sFInit) (defBody sFInit) (defScope sFInit) .none kVFI dcFI pmFI anFI cdFI ctFI) (PySem.W.fnOf "__and__" "Claim.__and__" (defArgs sAnd) (defBody sAnd) (defScope sAnd) .none kVAnd dcAnd pmAnd anAnd cdAnd ctAnd) (PySem.W.fnOf "__or__" "Claim.__or__" (defArgs sOr) (defBody sOr) (defScope sOr) .none kVOr dcOr pmOr anOr cdOr ctOr) (PySem.W.fnOf "__invert__" "Claim.__invert__" (defArgs sInv) (defBody sInv) (defScope sInv) .none kVInv dcInv pmInv anInv cdInv ctInv) (PySem.W.fnOf "verdict" "Claim.verdict" (defArgs sVer) (defBody sVer) (defScope sVer) .none kVVer dcVer pmVer anVer cdVer ctVer) (PySem.W.fnOf "is_integer" "is_integer" (defArgs sIsInt) (defBody sIsInt) (defScope sIsInt) .none kVisInt dcisInt pmisInt anisInt cdisInt ctisInt) (PySem.W.fnOf "is_below" "is_below" (defArgs sBelow) (defBody sBelow) (defScope sBelow) .none kVbelow dcbelow pmbelow anbelow cdbelow ctbelow) (PySem.W.fnOf "_is_row" "_is_row" (defArgs sIsRow) (defBody sIsRow) (defScope sIsRow) .none kVisRow dcisRow pmisRow anisRow cdisRow ctisRow) (PySem.W.fnOf "_check_rows" "_check_rows" (defArgs sCheck) (defBody sCheck) (defScope sCheck) .none kVcheck dccheck pmcheck ancheck cdcheck ctcheck) (PySem.W.fnOf "state_after" "state_after" (defArgs sAfter) (defBody sAfter) (defScope sAfter) .none kVafter dcafter pmafter anafter cdafter ctafter) (PySem.W.fnOf "_least_rows" "_least_rows" (defArgs sLR) (defBody sLR) (defScope sLR) .none kVlr dclr pmlr anlr cdlr ctlr) (PySem.W.fnOf "_number" "_number" (defArgs sNum) (defBody sNum) (defScope sNum) .none kVnum dcnum pmnum annum cdnum ctnum) (PySem.W.fnOf "_following" "_following" (defArgs sFol) (defBody sFol) (defScope sFol) .none kVfol dcfol pmfol anfol cdfol ctfol) (PySem.W.fnOf "joined" "joined" (defArgs sJoin) (defBody sJoin) (defScope sJoin) .none kVjoin dcjoin pmjoin anjoin cdjoin ctjoin) (PySem.W.fnOf "_law_draw" "_law_draw" (defArgs sDraw) (defBody sDraw) (defScope sDraw) .none kVdraw dcdraw pmdraw andraw cddraw ctdraw) (PySem.W.fnOf "_law_start" "_law_start" (defArgs sStart) (defBody sStart) (defScope sStart) .none kVstart dcstart pmstart anstart cdstart ctstart) (PySem.W.fnOf "_law_pick" "_law_pick" (defArgs sPick) (defBody sPick) (defScope sPick) .none kVpick dcpick pmpick anpick cdpick ctpick) (PySem.W.fnOf "_law_same" "_law_same" (defArgs sSame) (defBody sSame) (defScope sSame) .none kVsame dcsame pmsame ansame cdsame ctsame) (PySem.W.fnOf "_law_m_calls" "_law_m_calls" (defArgs sCalls) (defBody sCalls) (defScope sCalls) .none kVcalls dccalls pmcalls ancalls cdcalls ctcalls) (PySem.W.fnOf "_law_m_claim" "_law_m_claim" (defArgs sMC) (defBody sMC) (defScope sMC) .none kVmc dcmc pmmc anmc cdmc ctmc) (PySem.W.fnOf "_law_allowed" "_law_allowed" (defArgs sAl) (defBody sAl) (defScope sAl) .none kVal dcal pmal anal cdal ctal) (PySem.W.fnOf "_law_due" "_law_due" (defArgs sDue) (defBody sDue) (defScope sDue) .none kVdue dcdue pmdue andue cddue ctdue) (PySem.W.fnOf "_law_exact" "_law_exact" (defArgs sExact) (defBody sExact) (defScope sExact) .none kVexact dcexact pmexact anexact cdexact ctexact) (PySem.W.fnOf "_law_verdict" "_law_verdict" (defArgs sVd) (defBody sVd) (defScope sVd) .none kVvd dcvd pmvd anvd cdvd ctvd) (PySem.W.fnOf "least_form" "least_form" (defArgs sLeastF) (defBody sLeastF) (defScope sLeastF) .none kVlf1 dclf1 pmlf1 anlf1 cdlf1 ctlf1) (PySem.W.fnOf "_classes" "_classes" (defArgs sClasses) (defBody sClasses) (defScope sClasses) .none kVlf2 dclf2 pmlf2 anlf2 cdlf2 ctlf2) (PySem.W.fnOf "_split" "_split" (defArgs sSplit) (defBody sSplit) (defScope sSplit) .none kVlf3 dclf3 pmlf3 anlf3 cdlf3 ctlf3) (PySem.W.fnOf "_numbered" "_numbered" (defArgs sNumbered) (defBody sNumbered) (defScope sNumbered) .none kVlf4 dclf4 pmlf4 anlf4 cdlf4 ctlf4) (PySem.W.fnOf "_merged" "_merged" (defArgs sMerged) (defBody sMerged) (defScope sMerged) .none kVlf5 dclf5 pmlf5 anlf5 cdlf5 ctlf5) (PySem.W.fnOf "_renumbered" "_renumbered" (defArgs sRenum) (defBody sRenum) (defScope sRenum) .none kVlf6 dclf6 pmlf6 anlf6 cdlf6 ctlf6) (PySem.W.fnOf "_visit_numbers" "_visit_numbers" (defArgs sVisit) (defBody sVisit) (defScope sVisit) .none kVlf7 dclf7 pmlf7 anlf7 cdlf7 ctlf7) := ⟨⟨PySem.W.mg_none_of X_ G zisinstance, PySem.W.mg_none_of X_ G zint, PySem.W.mg_none_of X_ G zbool, PySem.W.mg_none_of X_ G zlist, PySem.W.mg_none_of X_ G ztuple, PySem.W.mg_none_of X_ G zlen, PySem.W.mg_none_of X_ G zall, PySem.W.mg_none_of X_ G zzip, PySem.W.mg_none_of X_ G zrange, PySem.W.mg_none_of X_ G zenumerate, ⟨tkM, PySem.W.mg_of X_ G aMost⟩⟩, ⟨⟨DV, _, PySem.W.mg_of X_ G aV, lV, rfl, rfl, hdv⟩, ⟨tkL, PySem.W.mg_of X_ G aLast⟩, ⟨tkO, PySem.W.mg_of X_ G aOther⟩⟩, ⟨⟨pgC, hdC, poC, saC⟩, nCrows, PySem.W.mg_of X_ G aC, PySem.W.mg_of X_ G aFo, kit_cls iCF tCF sLF, kit_cls iCF tCF sTF⟩, ⟨⟨pgFo, hdFo, poFo, saFo⟩, nForows, q1F, q2, q3, q4F, kit_self⟩, ⟨⟨pgC, hdC, poC, saC⟩, nCrows, q1, q2, q3, q4, kit_self⟩, FCI, ⟨mkC, aCI, iCI, kcC⟩, bCI, FFI, ⟨mkFo, aFI, iFI, kcFo⟩, bFI, FAnd, bAnd, ⟨sf, aAnd, iAnd⟩, FOr, bOr, ⟨sf, aOr, iOr⟩, FInv, bInv, aInv, iInv, FVer, bVer, ⟨aVer, iVer, kVer⟩, ⟨FisInt, bisInt, PySem.W.mg_of X_ G aisInt⟩, ⟨Fbelow, bbelow, PySem.W.mg_of X_ G abelow⟩, ⟨FisRow, bisRow, PySem.W.mg_of X_ G aisRow⟩, ⟨Fcheck, bcheck, PySem.W.mg_of X_ G acheck⟩, ⟨Fafter, bafter, PySem.W.mg_of X_ G aafter⟩, ⟨Flr, blr, PySem.W.mg_of X_ G alr⟩, ⟨Fnum, bnum, PySem.W.mg_of X_ G anum⟩, ⟨Ffol, bfol, PySem.W.mg_of X_ G afol⟩, ⟨Fjoin, bjoin, PySem.W.mg_of X_ G ajoin⟩, ⟨Fdraw, bdraw, PySem.W.mg_of X_ G adraw⟩, ⟨Fstart, bstart, PySem.W.mg_of X_ G astart⟩, ⟨Fpick, bpick, PySem.W.mg_of X_ G apick⟩, ⟨Fsame, bsame, PySem.W.mg_of X_ G asame⟩, ⟨Fcalls, bcalls, PySem.W.mg_of X_ G acalls⟩, ⟨Fmc, bmc, PySem.W.mg_of X_ G amc⟩, ⟨Fal, bal, PySem.W.mg_of X_ G aal⟩, ⟨Fdue, bdue, PySem.W.mg_of X_ G adue⟩, ⟨Fexact, bexact, PySem.W.mg_of X_ G aexact⟩, ⟨Fvd, bvd, PySem.W.mg_of X_ G avd⟩, ⟨PySem.W.mg_none_of X_ G zenumerate, ⟨Flf1, blf1, PySem.W.mg_of X_ G alf1⟩, ⟨Flf2, blf2, PySem.W.mg_of X_ G alf2⟩, ⟨Flf3, blf3, PySem.W.mg_of X_ G alf3⟩, ⟨Flf4, blf4, PySem.W.mg_of X_ G alf4⟩, ⟨Flf5, blf5, PySem.W.mg_of X_ G alf5⟩, ⟨Flf6, blf6, PySem.W.mg_of X_ G alf6⟩, ⟨Flf7, blf7, PySem.W.mg_of X_ G alf7⟩⟩⟩
  exact ⟨PySem.W.fnOf "law" "law" (defArgs sLaw) (defBody sLaw) (defScope sLaw) .none kVLaw dcLaw pmLaw anLaw cdLaw ctLaw, fun s v => .of_eq rfl, fun base _ _ => ok_law (fun_mk (st := sLaw) lLaw cLaw kLaw) PR⟩
theorem walk_ {l : PySem.W.OpenLaw} {q : Program} {loose : List Str} {XP : (Str → Option Value) → Heap → Prop} {YP : World → Heap → Prop} {d : DefRec} {K : Params → PySem.W.Frag} (hn : l.most = some 63) (hdf : d.params.defaults = [])
    (hY : ∀ (w : World) (h : Heap), YP w h → (K w.params).In h)
    (F : ∀ (w : World) (mg : Str → Option Value) (fa : Addr) (h : Heap), (K w.params).In h → h.Ns mainGlobals mg → mg d.name = some (.ref fa) →
      ∃ fd : FuncData, (∀ (s : Shared) (u : Value), BindsTo s fd ⟨[u], []⟩ [("_law_script", u)]) ∧ ∀ base : Heap, (K w.params).In base → base.Ns mainGlobals mg → FnOk l.prog w (K w.params) mg base CX0 7 fa fd ["_law_script"] (spLaw (K w.params))) :
    PySem.W.WalkO q loose XP YP l.row.toRowW d [] (fun f vs => PySem.call f vs) :=
  L2.walk_of (n := 63) (k := 7) (x := "_law_script") (CX := fun _ => CX0) (sp := fun w => spLaw (K w.params)) hn (by decide) hdf ⟨rfl, by decide, by decide⟩ hY F (fun _ _ a ns hl _ hS => ⟨a, ns, rfl, hS, hl, fun _ => rfl⟩) fun _ _ _ _ _ z => z
end PA

open PySem PySem.W PyProof.Rows
set_option maxRecDepth 100000 in
set_option maxHeartbeats 0 in
theorem PySem.Challenge.cw_pairahead_k24_whole_joined_claims_holds : PySem.Challenge.rw_pairahead_k24_whole_joined_claims.Holds := by
  w_on; o_law; k_head; (case hw => w_witness2)
  k_fill
  refine PA.walk_ (l := PySem.Challenge.rw_pairahead_k24_whole_joined_claims) rfl rfl (fun w h Y => PySem.W.kIn_of Y) ?F
  case F =>
    intro w mg fa h KX G hmg
    refine' PA.all_mk KX G hmg ?aC ?pgC ?hdC ?poC ?saC ?kcC ?mkC ?nCrows ?aCI ?lCI ?cCI ?kCI ?iCI ?aFo ?pgFo ?hdFo ?poFo ?saFo ?kcFo ?mkFo ?nForows ?aFI ?lFI ?cFI ?kFI ?iFI ?iCF ?tCF ?sLF ?sTF ?zisinstance ?zint ?zbool ?zlist ?ztuple ?zlen ?zall ?zzip ?zrange ?zenumerate ?aMost ?aLast ?aOther ?aV ?lV ?q1 ?q2 ?q3 ?q4 ?q1F ?q4F ?sf ?aAnd ?lAnd ?cAnd ?kAnd ?iAnd ?aOr ?lOr ?cOr ?kOr ?iOr ?aInv ?lInv ?cInv ?kInv ?iInv ?aVer ?lVer ?cVer ?kVer ?iVer ?aisInt ?lisInt ?cisInt ?kisInt ?abelow ?lbelow ?cbelow ?kbelow ?aisRow ?lisRow ?cisRow ?kisRow ?acheck ?lcheck ?ccheck ?kcheck ?aafter ?lafter ?cafter ?kafter ?alr ?llr ?clr ?klr ?anum ?lnum ?cnum ?knum ?afol ?lfol ?cfol ?kfol ?ajoin ?ljoin ?cjoin ?kjoin ?adraw ?ldraw ?cdraw ?kdraw ?astart ?lstart ?cstart ?kstart ?apick ?lpick ?cpick ?kpick ?asame ?lsame ?csame ?ksame ?acalls ?lcalls ?ccalls ?kcalls ?amc ?lmc ?cmc ?kmc ?aal ?lal ?cal ?kal ?adue ?ldue ?cdue ?kdue ?aexact ?lexact ?cexact ?kexact ?avd ?lvd ?cvd ?kvd ?alf1 ?llf1 ?clf1 ?klf1 ?alf2 ?llf2 ?clf2 ?klf2 ?alf3 ?llf3 ?clf3 ?klf3 ?alf4 ?llf4 ?clf4 ?klf4 ?alf5 ?llf5 ?clf5 ?klf5 ?alf6 ?llf6 ?clf6 ?klf6 ?alf7 ?llf7 ?clf7 ?klf7 ?aLaw ?lLaw ?cLaw ?kLaw
    (case aC => k_is)
    (case pgC => k_is)
    (case hdC => k_is)
    (case poC => k_is)
    (case saC => k_is)
    (case kcC => k_is)
    (case mkC => k_is)
    (case nCrows => k_is)
    (case aCI => k_is)
    (case lCI => k_is)
    (case cCI => k_is)
    (case kCI => k_is)
    (case iCI => k_is)
    (case aFo => k_is)
    (case pgFo => k_is)
    (case hdFo => k_is)
    (case poFo => k_is)
    (case saFo => k_is)
    (case kcFo => k_is)
    (case mkFo => k_is)
    (case nForows => k_is)
    (case aFI => k_is)
    (case lFI => k_is)
    (case cFI => k_is)
    (case kFI => k_is)
    (case iFI => k_is)
    (case iCF => k_is)
    (case tCF => k_is)
    (case sLF => k_is)
    (case sTF => k_is)
    (case zisinstance => k_is)
    (case zint => k_is)
    (case zbool => k_is)
    (case zlist => k_is)
    (case ztuple => k_is)
    (case zlen => k_is)
    (case zall => k_is)
    (case zzip => k_is)
    (case zrange => k_is)
    (case zenumerate => k_is)
    (case aMost => k_is)
    (case aLast => k_is)
    (case aOther => k_is)
    (case aV => k_is)
    (case lV => k_is)
    (case q1 => k_is)
    (case q2 => k_is)
    (case q3 => k_is)
    (case q4 => k_is)
    (case q1F => k_is)
    (case q4F => k_is)
    (case sf => k_is)
    (case aAnd => k_is)
    (case lAnd => k_is)
    (case cAnd => k_is)
    (case kAnd => k_is)
    (case iAnd => k_is)
    (case aOr => k_is)
    (case lOr => k_is)
    (case cOr => k_is)
    (case kOr => k_is)
    (case iOr => k_is)
    (case aInv => k_is)
    (case lInv => k_is)
    (case cInv => k_is)
    (case kInv => k_is)
    (case iInv => k_is)
    (case aVer => k_is)
    (case lVer => k_is)
    (case cVer => k_is)
    (case kVer => k_is)
    (case iVer => k_is)
    (case aisInt => k_is)
    (case lisInt => k_is)
    (case cisInt => k_is)
    (case kisInt => k_is)
    (case abelow => k_is)
    (case lbelow => k_is)
    (case cbelow => k_is)
    (case kbelow => k_is)
    (case aisRow => k_is)
    (case lisRow => k_is)
    (case cisRow => k_is)
    (case kisRow => k_is)
    (case acheck => k_is)
    (case lcheck => k_is)
    (case ccheck => k_is)
    (case kcheck => k_is)
    (case aafter => k_is)
    (case lafter => k_is)
    (case cafter => k_is)
    (case kafter => k_is)
    (case alr => k_is)
    (case llr => k_is)
    (case clr => k_is)
    (case klr => k_is)
    (case anum => k_is)
    (case lnum => k_is)
    (case cnum => k_is)
    (case knum => k_is)
    (case afol => k_is)
    (case lfol => k_is)
    (case cfol => k_is)
    (case kfol => k_is)
    (case ajoin => k_is)
    (case ljoin => k_is)
    (case cjoin => k_is)
    (case kjoin => k_is)
    (case adraw => k_is)
    (case ldraw => k_is)
    (case cdraw => k_is)
    (case kdraw => k_is)
    (case astart => k_is)
    (case lstart => k_is)
    (case cstart => k_is)
    (case kstart => k_is)
    (case apick => k_is)
    (case lpick => k_is)
    (case cpick => k_is)
    (case kpick => k_is)
    (case asame => k_is)
    (case lsame => k_is)
    (case csame => k_is)
    (case ksame => k_is)
    (case acalls => k_is)
    (case lcalls => k_is)
    (case ccalls => k_is)
    (case kcalls => k_is)
    (case amc => k_is)
    (case lmc => k_is)
    (case cmc => k_is)
    (case kmc => k_is)
    (case aal => k_is)
    (case lal => k_is)
    (case cal => k_is)
    (case kal => k_is)
    (case adue => k_is)
    (case ldue => k_is)
    (case cdue => k_is)
    (case kdue => k_is)
    (case aexact => k_is)
    (case lexact => k_is)
    (case cexact => k_is)
    (case kexact => k_is)
    (case avd => k_is)
    (case lvd => k_is)
    (case cvd => k_is)
    (case kvd => k_is)
    (case alf1 => k_is)
    (case llf1 => k_is)
    (case clf1 => k_is)
    (case klf1 => k_is)
    (case alf2 => k_is)
    (case llf2 => k_is)
    (case clf2 => k_is)
    (case klf2 => k_is)
    (case alf3 => k_is)
    (case llf3 => k_is)
    (case clf3 => k_is)
    (case klf3 => k_is)
    (case alf4 => k_is)
    (case llf4 => k_is)
    (case clf4 => k_is)
    (case klf4 => k_is)
    (case alf5 => k_is)
    (case llf5 => k_is)
    (case clf5 => k_is)
    (case klf5 => k_is)
    (case alf6 => k_is)
    (case llf6 => k_is)
    (case clf6 => k_is)
    (case klf6 => k_is)
    (case alf7 => k_is)
    (case llf7 => k_is)
    (case clf7 => k_is)
    (case klf7 => k_is)
    (case aLaw => k_is)
    (case lLaw => k_is)
    (case cLaw => k_is)
    (case kLaw => k_is)
#print axioms PySem.Challenge.cw_pairahead_k24_whole_joined_claims_holds
