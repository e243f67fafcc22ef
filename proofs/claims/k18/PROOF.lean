import PyProof.Rows.All
import Wide.All
import OpenK.AllK
import Wide.FinOn
import HandS.ForMost
import HandS.IsInst
import HandS.Zip
import HandS.Wide
import HandS.Codes
import HandS.Evl
import HandS.Conv
import HandS.Defaults
import HandS.MakeKw
import HandS.Walk
import HandS.TupAny
import HandS.Words
import HandS.WordsList
import HandS.Text
import HandS.More
import HandS.Iter
import PySem.Challenge.RW_pairahead_k18_row_sets_made
import HandS.ExcIs
import HandS.TryOnly
import HandS.WordsExc
import HandS.Style
import HandS.TupLe
import HandS.OwnEq
import HandS.Gcd
import HandS.ExcBuiltin
import HandS.ForExc
import HandS.FStr
import KE.KCallOwn
import PyProof.Conv_bool
import HandS.ClsMeth
import HandS.StrMore
import HandS.ExcOwn
set_option Elab.async false
set_option linter.all false
set_option maxRecDepth 100000
set_option maxHeartbeats 2000000
/-! what serves every row -/
namespace L2
open PySem PySem.Spec PyProof.Rows
theorem PI.or {X : Cx} {tg l : Expr} {w1 w2 : TI} (h1 : PI X tg l w1) (h2 : PI X tg l w2) : PI X tg l (fun σ H R => w1 σ H R ∨ w2 σ H R) :=
  ⟨fun pins s σ H R I h => h.elim (h1.run pins s σ H R I) (h2.run pins s σ H R I)⟩
/-- a list or a tuple -/
def Sq (K : PySem.W.Frag) (H : Hp) (a : Addr) (xs : List V) : Prop := SqL K H a xs ∨ SqT K H a xs
theorem SqT.up {K : PySem.W.Frag} {H H' : Hp} {a : Addr} {xs : List V} (h : SqT K H a xs) (e : Same H H') : SqT K H' a xs :=
  h.elim (fun h => .inl (h.elim (fun h => .inl (e _ _ h)) fun ⟨o, h⟩ => .inr ⟨o, e _ _ h⟩)) fun h => .inr h
theorem SqL.up {K : PySem.W.Frag} {H H' : Hp} {a : Addr} {xs : List V} (h : SqL K H a xs) (e : Same H H') : SqL K H' a xs :=
  h.elim (fun h => .inl (h.elim (fun h => .inl (e _ _ h)) fun ⟨o, h⟩ => .inr ⟨o, e _ _ h⟩)) fun h => .inr h
theorem Sq.up {K : PySem.W.Frag} {H H' : Hp} {a : Addr} {xs : List V} (h : Sq K H a xs) (e : Same H H') : Sq K H' a xs := h.imp (fun h => SqL.up h e) fun h => SqT.up h e
theorem walk_l {K : PySem.W.Frag} {a : Addr} {xs : List V} : Walk (Itl K a) xs.length (fun H => SqL K H a xs) (YAt xs) :=
  ⟨fun i H hi q => ⟨xs, xs[i], q, by simp [hi]⟩, fun H q => ⟨xs, q, Nat.le_refl _⟩, fun i H x H' hi q y => ⟨y.1, y.2 xs q⟩⟩
theorem walk_t {K : PySem.W.Frag} {a : Addr} {xs : List V} : Walk (Itt K a) xs.length (fun H => SqT K H a xs) (YAt xs) :=
  ⟨fun i H hi q => ⟨xs, xs[i], q, by simp [hi]⟩, fun H q => ⟨xs, q, Nat.le_refl _⟩, fun i H x H' hi q y => ⟨y.1, y.2 xs q⟩⟩
/-- how a value that is a list or a tuple of xs stands, as one of the two -/
inductive Kind where
  | l | t
def Sk (K : PySem.W.Frag) (k : Kind) (H : Hp) (a : Addr) (xs : List V) : Prop := match k with
  | .l => SqL K H a xs
  | .t => SqT K H a xs
theorem Sk.sq {K : PySem.W.Frag} {k : Kind} {H : Hp} {a : Addr} {xs : List V} (h : Sk K k H a xs) : Sq K H a xs := by
  cases k
  · exact .inl h
  · exact .inr h
theorem Sk.up {K : PySem.W.Frag} {k : Kind} {H H' : Hp} {a : Addr} {xs : List V} (h : Sk K k H a xs) (e : Same H H') : Sk K k H' a xs := by
  cases k
  · exact SqL.up h e
  · exact SqT.up h e
theorem Sq.kind {K : PySem.W.Frag} {H : Hp} {a : Addr} {xs : List V} (h : Sq K H a xs) : ∃ k, Sk K k H a xs := h.elim (fun h => ⟨.l, h⟩) fun h => ⟨.t, h⟩
def ItSq (K : PySem.W.Frag) (k : Kind) (a : Addr) : It := match k with
  | .l => Itl K a
  | .t => Itt K a
theorem walk_k {K : PySem.W.Frag} {k : Kind} {a : Addr} {xs : List V} : Walk (ItSq K k a) xs.length (fun H => Sk K k H a xs) (YAt xs) := by
  cases k
  · exact walk_l
  · exact walk_t
/-- a walk over a list or a tuple -/
def iSq (K : PySem.W.Frag) (tl : TE) : TI := fun σ H R => ∃ k : Kind, tl σ H fun x H1 => ∃ a, x = .ref a ∧ (∃ xs, Sk K k H1 a xs) ∧ R (ItSq K k a) H1
theorem pi_sq {X : Cx} {tg l : Expr} {tl : TE} (hl : PE X l tl) : PI X tg l (iSq X.K tl) := by
  refine ⟨fun pins s σ H R I ⟨k, h⟩ => ?_⟩
  cases k
  · exact (pi_list hl).run pins s σ H R I h
  · exact (pi_tup hl).run pins s σ H R I h
/-! ### comprehensions -/
section
variable {J : It} {n : Nat} {G : Hp → Prop} {xs : List V} {g : TG} {tt : TT} {te : TE} {vs : List Nat} {σ : L2.St} {H1 : Hp} {D : Addr} {Qd : Hp → Prop}
theorem new_ {H : Hp} {p : Addr} {o : HO} (hp : H p = none) : Same H (upd H p o) := fun b u e => by
  rw [upd_ne (ne_of_none e hp)]
  exact e
/-- all but D is as it was -/
def But (D : Addr) (H H' : Hp) : Prop := ∀ c o, c ≠ D → H c = some o → H' c = some o
/-- the values are made one after another, the heap of before stays -/
theorem lc_acc (w : Walk J n G (YAt xs)) (hn : n ≤ sizeLine) (hD : H1 D = none) (hG : ∀ H, Same H1 H → G H) (A : Nat → List V → Hp → Prop) (hl : ∀ i acc H, A i acc H → acc.length ≤ i) (A0 : A 0 [] (upd H1 D (.lst [])))
    (hs : ∀ (i : Nat) (x : V) (H : Hp) (acc : List V) (Φ : V → Hp → Prop) (Ψ : Hp → Prop), i < n → xs[i]? = some x → Same H1 H → H D = some (.lst acc) → A i acc H →
      (∀ y H4, Same H H4 → H4 D = some (.lst acc) → (∀ H5, H5 D = some (.lst (acc ++ [y])) → But D H4 H5 → But D H5 H4 → A (i + 1) (acc ++ [y]) H5) → Φ y H4) →
      g x (wipe σ vs) H fun σ2 H2 => wipe σ2 vs = wipe σ vs ∧ tt σ2 H2 fun b H3 => if b = true then te σ2 H3 Φ else Ψ H3)
    (hd : ∀ H acc, Same H1 H → H D = some (.lst acc) → A n acc H → Qd H) :
    ∃ W : Nat → Nat → Hp → Prop, (∃ m, W 0 m (upd H1 D (.lst []))) ∧ ∀ i m H, W i m H →
      (J.stop i H ∧ Qd H) ∨ (J.go i H ∧ ∃ Nx : Hp → Prop, (∀ H', Nx H' → ∃ m', m' < m ∧ W (i + 1) m' H') ∧ ∀ x H', J.yld i H x H' → g x (wipe σ vs) H' fun σ2 H2 => wipe σ2 vs = wipe σ vs ∧ tt σ2 H2 fun b H3 =>
        if b = true then te σ2 H3 fun y H4 => ∃ acc, H4 D = some (.lst acc) ∧ acc.length < sizeLine ∧ Nx (upd H4 D (.lst (acc ++ [y]))) else Nx H3) := by
  refine lc_it w (fun i H => Same H1 H ∧ ∃ acc, H D = some (.lst acc) ∧ A i acc H) ⟨new_ hD, [], upd_same, A0⟩ (fun i H _ p => hG H p.1) (fun i x H H' hi p y => ?_) fun H p => ?_
  · obtain ⟨rfl, hx⟩ := y
    obtain ⟨sm, acc, hd', ha⟩ := p
    refine hs i x _ acc _ _ hi hx sm hd' ha fun y H4 s4 d4 k => ⟨acc, d4, Nat.lt_of_lt_of_le (Nat.lt_of_le_of_lt (hl _ _ _ ha) hi) hn, fun c o e => ?_, acc ++ [y], upd_same, k _ upd_same (fun c o cd e => ?_) fun c o cd e => ?_⟩
    · rw [upd_ne (ne_of_none e hD)]
      exact s4 _ _ (sm _ _ e)
    · rw [upd_ne cd]
      exact e
    · rw [upd_ne cd] at e
      exact e
  · obtain ⟨sm, acc, hd', ha⟩ := p
    exact hd H acc sm hd' ha
/-- values that do not hang on the heap -/
theorem lc_same (w : Walk J n G (YAt xs)) (hn : n ≤ sizeLine) (hD : H1 D = none) (hG : ∀ H, Same H1 H → G H) (ys : List V) (hy : ys.length = n)
    (hs : ∀ (i : Nat) (x y : V) (H : Hp) (Φ : V → Hp → Prop) (Ψ : Hp → Prop), xs[i]? = some x → ys[i]? = some y → Same H1 H → (∀ H4, Same H H4 → Φ y H4) →
      g x (wipe σ vs) H fun σ2 H2 => wipe σ2 vs = wipe σ vs ∧ tt σ2 H2 fun b H3 => if b = true then te σ2 H3 Φ else Ψ H3)
    (hd : ∀ H, Same H1 H → H D = some (.lst ys) → Qd H) :
    ∃ W : Nat → Nat → Hp → Prop, (∃ m, W 0 m (upd H1 D (.lst []))) ∧ ∀ i m H, W i m H →
      (J.stop i H ∧ Qd H) ∨ (J.go i H ∧ ∃ Nx : Hp → Prop, (∀ H', Nx H' → ∃ m', m' < m ∧ W (i + 1) m' H') ∧ ∀ x H', J.yld i H x H' → g x (wipe σ vs) H' fun σ2 H2 => wipe σ2 vs = wipe σ vs ∧ tt σ2 H2 fun b H3 =>
        if b = true then te σ2 H3 fun y H4 => ∃ acc, H4 D = some (.lst acc) ∧ acc.length < sizeLine ∧ Nx (upd H4 D (.lst (acc ++ [y]))) else Nx H3) := by
  refine lc_acc w hn hD hG (fun i acc _ => acc = ys.take i) (fun i acc H e => by rw [e, List.length_take]; omega) (by rw [List.take_zero]) (fun i x H acc Φ Ψ hi hx sm hd' ha k => ?_) fun H acc sm hd' ha => hd H sm ?_
  · have hi' : i < ys.length := by omega
    have ey : ys[i]? = some ys[i] := List.getElem?_eq_getElem hi'
    refine hs i x ys[i] H Φ Ψ hx ey sm fun H4 s4 => k _ H4 s4 (s4 _ _ hd') fun H5 _ _ _ => ?_
    rw [ha, List.take_add_one, ey]
    rfl
  · rw [hd', ha, ← hy, List.take_length]
end
/-! ### x in an instance with the own method -/
section
variable {X : Cx} {CX : CXT} {k : Nat} {C f : Addr} {fd : FuncData} {ps : List Str} {sp : Sp} {E : XK}
theorem op_inOwn (hs : PySem.W.findIn X.K (.ref C) "__contains__" = some (some (.ref f))) (hf : PySem.W.isFn X.K (.ref f) = true) (F : FnOk X.prog X.w X.K X.mg X.base CX k f fd ps sp) (hr : Room k X.A) (hb : Binds X.K fd ps []) (hx : Passes CX X E) :
    OpR X (compareOp .In) (fun x y H Q => ∃ a dx fs, y = .ref a ∧ H a = some (.ins C dx fs) ∧ sp [.ref a, x] H (fun v H' => ∃ b, v = .bl b ∧ Q (.bl b) H') E) := by
  intro pins s σ H x y v u Q I rx ry h
  obtain ⟨a, dx, fs, rfl, ha, q⟩ := h
  cases ry
  obtain ⟨mA, J, _⟩ := ins_get I.hok ha
  obtain ⟨od, J, _⟩ := J.look
  obtain ⟨m, hF⟩ := I.fr
  refine PySem.W.in_K hF I.ok.mod.kin J hs hf ?_
  refine wpAny_mono (run_fn (us := [.ref a, v]) (vs := [.ref a, x]) F hr hb .nil hx I (.cons rfl (.cons rx .nil)) q) (fun w s' z => ?_) fun _ _ z => z
  obtain ⟨v', H', I', rv, b, rfl, q'⟩ := z
  cases rv
  exact wpAny_truthy_bool ⟨.bl b, H', I', rfl, q'⟩
theorem op_notInOwn (hs : PySem.W.findIn X.K (.ref C) "__contains__" = some (some (.ref f))) (hf : PySem.W.isFn X.K (.ref f) = true) (F : FnOk X.prog X.w X.K X.mg X.base CX k f fd ps sp) (hr : Room k X.A) (hb : Binds X.K fd ps []) (hx : Passes CX X E) :
    OpR X (compareOp .NotIn) (fun x y H Q => ∃ a dx fs, y = .ref a ∧ H a = some (.ins C dx fs) ∧ sp [.ref a, x] H (fun v H' => ∃ b, v = .bl b ∧ Q (.bl (!b)) H') E) := by
  intro pins s σ H x y v u Q I rx ry h
  obtain ⟨a, dx, fs, rfl, ha, q⟩ := h
  cases ry
  obtain ⟨mA, J, _⟩ := ins_get I.hok ha
  obtain ⟨od, J, _⟩ := J.look
  obtain ⟨m, hF⟩ := I.fr
  refine PySem.W.notIn_K hF I.ok.mod.kin J hs hf ?_
  refine wpAny_mono (run_fn (us := [.ref a, v]) (vs := [.ref a, x]) F hr hb .nil hx I (.cons rfl (.cons rx .nil)) q) (fun w s' z => ?_) fun _ _ z => z
  obtain ⟨v', H', I', rv, b, rfl, q'⟩ := z
  cases rv
  exact wpAny_truthy_bool ⟨.bl (!b), H', I', rfl, q'⟩
end
end L2

set_option maxHeartbeats 2000000
namespace L2
open PySem PySem.Spec PyProof.Rows RZ
/-! ### zip, slices of lists and tuples -/
theorem walk_zipT {K : PySem.W.Frag} {a b : Addr} {xs ys : List V} {n : Nat} (hn : n = min xs.length ys.length) : Walk (ItzT K a b) n (fun H => SqT K H a xs ∧ SqT K H b ys) (YPair (fun i => xs[i]?) (fun i => ys[i]?)) :=
  ⟨fun i H hi q => ⟨xs, ys, xs[i]'(by omega), ys[i]'(by omega), q.1, q.2, List.getElem?_eq_getElem _, List.getElem?_eq_getElem _⟩,
    fun H q => ⟨xs, ys, q.1, q.2, by omega⟩, fun i H v H' hi q y => by
      obtain ⟨T, x, y', rfl, hT, rfl, f1, f2⟩ := y
      exact ⟨T, x, y', rfl, hT, rfl, f1 xs q.1, f2 ys q.2⟩⟩
def ItZk (K : PySem.W.Frag) (k : Kind) (a b : Addr) : It := match k with
  | .l => Itz K a b
  | .t => ItzT K a b
theorem walk_zk {K : PySem.W.Frag} {k : Kind} {a b : Addr} {xs ys : List V} {n : Nat} (hn : n = min xs.length ys.length) : Walk (ItZk K k a b) n (fun H => Sk K k H a xs ∧ Sk K k H b ys) (YPair (fun i => xs[i]?) (fun i => ys[i]?)) := by
  cases k
  · exact walk_zip hn
  · exact walk_zipT hn
theorem zip_k {K : PySem.W.Frag} {k : Kind} {H : Hp} {a b : Addr} {xs ys : List V} {R : It → Hp → Prop} (ha : Sk K k H a xs) (hb : Sk K k H b ys) (h : R (ItZk K k a b) H) :
    (SqL K H a xs ∧ SqL K H b ys ∧ R (Itz K a b) H) ∨ (SqT K H a xs ∧ SqT K H b ys ∧ R (ItzT K a b) H) := by
  cases k
  · exact .inl ⟨ha, hb, h⟩
  · exact .inr ⟨ha, hb, h⟩
theorem cut_all {xs : List V} {lo hi : Option Int} (h : HT.sIx xs.length 0 lo = 0 ∧ HT.sIx xs.length xs.length hi = xs.length) : cutV xs lo hi = xs := by
  unfold cutV
  rw [h.1, h.2, List.drop_zero, Nat.sub_zero, List.take_length]
theorem sl_k {K : PySem.W.Frag} {k : Kind} {H : Hp} {a : Addr} {xs : List V} {lo hi : Option Int} {Q : V → Hp → Prop} (ha : Sk K k H a xs) (h : ∀ p H', Same H H' → Sk K k H' p (cutV xs lo hi) → Q (.ref p) H') :
    rSlL K (.ref a) lo hi H Q ∨ rSlA K (.ref a) lo hi H Q := by
  cases k
  · exact .inl ⟨a, xs, rfl, ha, fun p hp => h p _ (new_ hp) (SqL.of upd_same)⟩
  · exact .inr ⟨a, xs, rfl, ha, fun w => h a H (fun _ _ e => e) (by rw [cut_all w]; exact ha), fun _ p hp => h p _ (new_ hp) (SqT.of upd_same)⟩
theorem cut_1 (xs : List V) : cutV xs (some (1 : Int)) none = xs.drop 1 := by
  unfold cutV
  rw [show (1 : Int) = ((1 : Nat) : Int) from rfl, HT.sIx_nat, HT.sIx_none]
  rcases Nat.eq_zero_or_pos xs.length with h | h
  · have : xs = [] := List.length_eq_zero_iff.mp h
    subst this
    rfl
  · rw [Nat.min_eq_left h, List.take_of_length_le (by rw [List.length_drop]; exact Nat.le_refl _)]
theorem cut_to (xs : List V) (n : Nat) : cutV xs none (some (n : Int)) = xs.take n := by
  unfold cutV
  rw [HT.sIx_nat, HT.sIx_none, List.drop_zero, Nat.sub_zero]
  rcases Nat.le_total n xs.length with h | h
  · rw [Nat.min_eq_left h]
  · rw [Nat.min_eq_right h, List.take_length, List.take_of_length_le h]
/-! ### small words -/
theorem take_succ' {α : Type} {l : List α} {i : Nat} {x : α} (h : l[i]? = some x) : l.take (i + 1) = l.take i ++ [x] := by
  rw [List.take_add_one, h]
  rfl
theorem ifD_no {p A B : Prop} [Decidable p] (h : ¬ p) (q : B) : if decide p = true then A else B := by
  rw [decide_eq_false h]
  exact iteF q
theorem ifD_yes {p A B : Prop} [Decidable p] (h : p) (q : A) : if decide p = true then A else B := by
  rw [decide_eq_true h]
  exact iteT q
theorem ifD_2 {p A B : Prop} [Decidable p] (h1 : p → A) (h2 : ¬ p → B) : if decide p = true then A else B := by
  by_cases h : p
  · exact ifD_yes h (h1 h)
  · exact ifD_no h (h2 h)
theorem ifB_2 {b : Bool} {A B : Prop} (h1 : b = true → A) (h2 : b = false → B) : if b = true then A else B := by
  cases b
  · exact iteF (h2 rfl)
  · exact iteT (h1 rfl)
theorem Same.none {H H' : Hp} {x : Addr} (s : Same H H') (h : H' x = Option.none) : H x = Option.none := by
  cases e : H x with
  | none => rfl
  | some o => rw [s _ _ e] at h; cases h
theorem all_true (n : Nat) : (List.replicate n true).all id = true := by
  rw [List.all_eq_true]
  intro x hx
  rw [(List.mem_replicate.mp hx).2]
  rfl
theorem boot_isi : bootBuiltins "isinstance" = some (.builtin "isinstance") := by decide +kernel
theorem boot_int' : bootBuiltins "int" = some (.type "int") := by decide +kernel
theorem boot_bool' : bootBuiltins "bool" = some (.type "bool") := by decide +kernel
theorem boot_tuple' : bootBuiltins "tuple" = some (.type "tuple") := by decide +kernel
theorem boot_list' : bootBuiltins "list" = some (.type "list") := by decide +kernel
theorem boot_all' : bootBuiltins "all" = some (.builtin "all") := by decide +kernel
structure Df (K : PySem.W.Frag) (mg : Str → Option Value) (x : Str) (st : Stmt) (f : Addr) (fd : FuncData) (ps : List Str) : Prop where
  F : Fun K x x st f fd
  B : Binds K fd ps []
  M : mg x = some (.ref f)
def rTupK (K : PySem.W.Frag) : List V → Hp → (V → Hp → Prop) → Prop := fun xs H Q => ∃ p ys, xs = [.ref p] ∧ ((SqL K H p ys ∧ ∀ l, H l = none → Q (.ref l) (upd H l (.tup ys))) ∨ (SqT K H p ys ∧ Q (.ref p) H))
theorem call_tupleK {X : Cx} {K : PySem.W.Frag} (h : X.K = K) : CallR X (.type "tuple") (rTupK K) := h ▸ call_tuple_of
def rLstK (K : PySem.W.Frag) : List V → Hp → (V → Hp → Prop) → Prop := fun xs H Q => ∃ p ys, xs = [.ref p] ∧ (SqL K H p ys ∨ SqT K H p ys) ∧ ∀ l, H l = none → Q (.ref l) (upd H l (.lst ys))
theorem call_listK {X : Cx} {K : PySem.W.Frag} (h : X.K = K) : CallR X (.type "list") (rLstK K) := h ▸ call_list_of
def rLenK (K : PySem.W.Frag) : List V → Hp → (V → Hp → Prop) → Prop := fun xs H Q => ∃ p ys, xs = [.ref p] ∧ (SqL K H p ys ∨ SqT K H p ys) ∧ Q (.int ys.length) H
theorem call_lenK {X : Cx} {K : PySem.W.Frag} (h : X.K = K) : CallR X (.builtin "len") (rLenK K) := h ▸ call_len_seq
def rIxTK (K : PySem.W.Frag) : R2 := fun x y H Q => ∃ p xs i v, x = .ref p ∧ y = .int i ∧ SqT K H p xs ∧ atI xs i = some v ∧ Q v H
theorem ix_tupK {X : Cx} {K : PySem.W.Frag} (h : X.K = K) : IxR X (rIxTK K) := h ▸ ix_tup
/-! ### what stands at each place of a list of references -/
def Ea {α : Type} (H : Hp) (P : Hp → Addr → α → Prop) (xs : List V) (ds : List α) : Prop := xs.length = ds.length ∧ ∀ (i : Nat) (x : V) (r : α), xs[i]? = some x → ds[i]? = some r → ∃ c, x = .ref c ∧ P H c r
section
variable {α : Type} {H H' : Hp} {P P' : Hp → Addr → α → Prop} {xs ys : List V} {ds es : List α} {c : Addr} {r : α}
theorem Ea.imp (e : Ea H P xs ds) (f : ∀ c r, P H c r → P' H' c r) : Ea H' P' xs ds := ⟨e.1, fun i x r h1 h2 => let ⟨c, hx, q⟩ := e.2 i x r h1 h2; ⟨c, hx, f c r q⟩⟩
theorem Ea.nil : Ea H P [] [] := ⟨rfl, fun i x r h _ => by simp at h⟩
theorem Ea.append (e : Ea H P xs ds) (e' : Ea H P ys es) : Ea H P (xs ++ ys) (ds ++ es) := by
  refine ⟨by rw [List.length_append, List.length_append, e.1, e'.1], fun i x r h1 h2 => ?_⟩
  rcases Nat.lt_or_ge i xs.length with hi | hi
  · rw [List.getElem?_append_left hi] at h1
    rw [List.getElem?_append_left (by rw [← e.1]; exact hi)] at h2
    exact e.2 i x r h1 h2
  · rw [List.getElem?_append_right hi] at h1
    rw [List.getElem?_append_right (by rw [← e.1]; exact hi), ← e.1] at h2
    exact e'.2 _ x r h1 h2
theorem Ea.one (q : P H c r) : Ea H P [.ref c] [r] := by
  refine ⟨rfl, fun i x r' h1 h2 => ?_⟩
  match i, h1, h2 with
  | 0, h1, h2 =>
    cases h1
    cases h2
    exact ⟨c, rfl, q⟩
  | (j + 1), h1, _ => simp at h1
theorem Ea.push (e : Ea H P xs ds) (q : P H c r) : Ea H P (xs ++ [.ref c]) (ds ++ [r]) := e.append (.one q)
theorem Ea.get (e : Ea H P xs ds) {i : Nat} {r : α} (h : ds[i]? = some r) : ∃ c, xs[i]? = some (.ref c) ∧ P H c r := by
  have hi : i < xs.length := by rw [e.1]; exact (List.getElem?_eq_some_iff.mp h).1
  obtain ⟨c, hc, q⟩ := e.2 i _ r (List.getElem?_eq_getElem hi) h
  exact ⟨c, by rw [List.getElem?_eq_getElem hi, hc], q⟩
theorem Ea.at_ (e : Ea H P xs ds) {i : Nat} {x : V} (h : xs[i]? = some x) : ∃ c r, x = .ref c ∧ ds[i]? = some r ∧ P H c r := by
  have hi : i < ds.length := by rw [← e.1]; exact (List.getElem?_eq_some_iff.mp h).1
  obtain ⟨c, hc, q⟩ := e.2 i _ _ h (List.getElem?_eq_getElem hi)
  exact ⟨c, _, hc, List.getElem?_eq_getElem hi, q⟩
end
/-- a tuple at c of what r is written as -/
def TupOf {α : Type} (f : α → List V) (H : Hp) (c : Addr) (r : α) : Prop := H c = some (.tup (f r))
section
variable {α : Type} {f : α → List V} {H H' : Hp} {xs : List V} {ds : List α} {c p C dx : Addr} {r : α}
theorem TupOf.lst {ys zs : List V} (q : TupOf f H c r) (hD : H p = some (.lst ys)) : TupOf f (upd H p (.lst zs)) c r := by
  unfold TupOf
  rw [upd_ne (ne_of (H := H) q hD (by intro z; cases z))]
  exact q
theorem TupOf.ins {fs : List (Str × V)} {o : HO} (q : TupOf f H c r) (hp : H p = some (.ins C dx fs)) : TupOf f (upd H p o) c r := by
  unfold TupOf
  rw [upd_ne (ne_of (H := H) q hp (by intro z; cases z))]
  exact q
theorem TupOf.but {ys : List V} (q : TupOf f H c r) (hD : H p = some (.lst ys)) (b : But p H H') : TupOf f H' c r := b _ _ (ne_of (H := H) q hD (by intro z; cases z)) q
theorem Ea.same (e : Ea H (TupOf f) xs ds) (s : Same H H') : Ea H' (TupOf f) xs ds := e.imp fun c r q => s _ _ q
end
end L2

set_option maxHeartbeats 2000000
namespace PA
/-- below 2 ^ n in size -/
abbrev Sm (n : Nat) (x : Int) : Prop := x.natAbs < 2 ^ n
theorem Sm.mono {n m : Nat} {x : Int} (h : Sm n x) (hn : n ≤ m) : Sm m x := Nat.lt_of_lt_of_le h (Nat.pow_le_pow_right (by decide) hn)
theorem Sm.mul {n m k : Nat} {x y : Int} (hx : Sm n x) (hy : Sm m y) (h : n + m ≤ k) : Sm k (x * y) := by
  refine Sm.mono (n := n + m) ?_ h
  unfold Sm
  rw [Int.natAbs_mul, Nat.pow_add]
  exact Nat.mul_lt_mul'' hx hy
theorem Sm.add {n k : Nat} {x y : Int} (hx : Sm n x) (hy : Sm n y) (h : n + 1 ≤ k) : Sm k (x + y) := by
  refine Sm.mono (n := n + 1) ?_ h
  unfold Sm at *
  rw [Nat.pow_succ]
  omega
theorem Sm.sub {n k : Nat} {x y : Int} (hx : Sm n x) (hy : Sm n y) (h : n + 1 ≤ k) : Sm k (x - y) := by
  refine Sm.mono (n := n + 1) ?_ h
  unfold Sm at *
  rw [Nat.pow_succ]
  omega
theorem Sm.neg {n : Nat} {x : Int} (hx : Sm n x) : Sm n (-x) := by
  unfold Sm at *
  rw [Int.natAbs_neg]
  exact hx
theorem Sm.le {n : Nat} {x y : Int} (hx : Sm n x) (h : y.natAbs ≤ x.natAbs) : Sm n y := Nat.lt_of_le_of_lt h hx
theorem Sm.one {n : Nat} (h : 0 < n) : Sm n 1 := by
  show (1 : Int).natAbs < 2 ^ n
  exact Nat.one_lt_two_pow (by omega)

/-- the divisor that a Ratio shortens by -/
def shr (t b : Int) : Int := if b < 0 then -((Nat.gcd t.natAbs b.natAbs : Nat) : Int) else ((Nat.gcd t.natAbs b.natAbs : Nat) : Int)
/-- lowest terms -/
structure Low (T B : Int) : Prop where
  pos : 0 < B
  cop : Nat.gcd T.natAbs B.natAbs = 1
theorem low_one (i : Int) : Low i 1 := ⟨by decide, Nat.gcd_one_right _⟩
theorem gcd_key {a b c d g : Nat} (h1 : a = c * g) (h2 : b = d * g) : Nat.gcd a b = Nat.gcd c d * g := by
  rw [h1, h2]
  exact Nat.gcd_mul_right _ _ _
theorem rat_mk {t b : Int} (hb : b ≠ 0) : shr t b ≠ 0 ∧ (shr t b).natAbs ≤ b.natAbs ∧ Low (t.fdiv (shr t b)) (b.fdiv (shr t b)) ∧ (t.fdiv (shr t b)) * b = t * (b.fdiv (shr t b)) ∧
    (t.fdiv (shr t b)).natAbs ≤ t.natAbs ∧ (b.fdiv (shr t b)).natAbs ≤ b.natAbs := by
  have hg : 0 < Nat.gcd t.natAbs b.natAbs := Nat.gcd_pos_of_pos_right _ (Int.natAbs_pos.mpr hb)
  have hgb : Nat.gcd t.natAbs b.natAbs ≤ b.natAbs := Nat.gcd_le_right _ (Int.natAbs_pos.mpr hb)
  have hsn : (shr t b).natAbs = Nat.gcd t.natAbs b.natAbs := by
    unfold shr
    split
    · rw [Int.natAbs_neg, Int.natAbs_natCast]
    · rw [Int.natAbs_natCast]
  have hs0 : shr t b ≠ 0 := by
    intro z
    rw [z] at hsn
    simp at hsn
    omega
  have dv : ∀ y : Int, (Nat.gcd t.natAbs b.natAbs) ∣ y.natAbs → ∃ q : Int, y = q * shr t b := by
    intro y hy
    have h1 : ((Nat.gcd t.natAbs b.natAbs : Nat) : Int) ∣ y := Int.ofNat_dvd_left.mpr hy
    obtain ⟨q, hq⟩ := h1
    unfold shr
    split
    · exact ⟨-q, by rw [Int.neg_mul_neg, Int.mul_comm]; exact hq⟩
    · exact ⟨q, by rw [Int.mul_comm]; exact hq⟩
  obtain ⟨T, hT⟩ := dv t (Nat.gcd_dvd_left _ _)
  obtain ⟨B, hB⟩ := dv b (Nat.gcd_dvd_right _ _)
  have eT : t.fdiv (shr t b) = T := by
    conv => lhs; lhs; rw [hT]
    exact Int.mul_fdiv_cancel _ hs0
  have eB : b.fdiv (shr t b) = B := by
    conv => lhs; lhs; rw [hB]
    exact Int.mul_fdiv_cancel _ hs0
  rw [eT, eB]
  have nT : t.natAbs = T.natAbs * Nat.gcd t.natAbs b.natAbs := by
    conv => lhs; rw [hT, Int.natAbs_mul, hsn]
  have nB : b.natAbs = B.natAbs * Nat.gcd t.natAbs b.natAbs := by
    conv => lhs; rw [hB, Int.natAbs_mul, hsn]
  refine ⟨hs0, by rw [hsn]; exact hgb, ⟨?_, ?_⟩, ?_, ?_, ?_⟩
  · have hB0 : B ≠ 0 := by
      intro z
      rw [z, Int.zero_mul] at hB
      exact hb hB
    rcases Int.lt_or_gt_of_ne hB0 with h | h
    · exfalso
      unfold shr at hB
      split at hB
      · rename_i hneg
        have : 0 < B * -((Nat.gcd t.natAbs b.natAbs : Nat) : Int) := Int.mul_pos_of_neg_of_neg h (by omega)
        omega
      · rename_i hneg
        have : B * ((Nat.gcd t.natAbs b.natAbs : Nat) : Int) < 0 := Int.mul_neg_of_neg_of_pos h (by omega)
        omega
    · exact h
  · have e : Nat.gcd t.natAbs b.natAbs = Nat.gcd T.natAbs B.natAbs * Nat.gcd t.natAbs b.natAbs := by
      exact gcd_key nT nB
    have e2 : 1 * Nat.gcd t.natAbs b.natAbs = Nat.gcd T.natAbs B.natAbs * Nat.gcd t.natAbs b.natAbs := by rw [Nat.one_mul]; exact e
    exact (Nat.eq_of_mul_eq_mul_right hg e2).symm
  · calc T * b = T * (B * shr t b) := by rw [← hB]
      _ = (T * shr t b) * B := by rw [Int.mul_comm B, ← Int.mul_assoc]
      _ = t * B := by rw [← hT]
  · rw [nT]; exact Nat.le_mul_of_pos_right _ hg
  · rw [nB]; exact Nat.le_mul_of_pos_right _ hg
/-- a fraction has one lowest form -/
theorem Low.uniq {T B T' B' : Int} (h : Low T B) (h' : Low T' B') (e : T * B' = T' * B) : T = T' ∧ B = B' := by
  have n : T.natAbs * B'.natAbs = T'.natAbs * B.natAbs := by rw [← Int.natAbs_mul, ← Int.natAbs_mul, e]
  have d1 : B.natAbs ∣ B'.natAbs := by
    have : B.natAbs ∣ T.natAbs * B'.natAbs := ⟨T'.natAbs, by rw [n, Nat.mul_comm]⟩
    exact (Nat.Coprime.symm h.cop).dvd_of_dvd_mul_left this
  have d2 : B'.natAbs ∣ B.natAbs := by
    have : B'.natAbs ∣ T'.natAbs * B.natAbs := ⟨T.natAbs, by rw [← n, Nat.mul_comm]⟩
    exact (Nat.Coprime.symm h'.cop).dvd_of_dvd_mul_left this
  have eB : B = B' := by
    have := Nat.dvd_antisymm d1 d2
    have p1 := h.pos
    have p2 := h'.pos
    omega
  subst eB
  have hB : B ≠ 0 := by have := h.pos; omega
  exact ⟨Int.eq_of_mul_eq_mul_right hB e, rfl⟩
theorem Low.neg {T B : Int} (h : Low T B) : Low (-T) B := ⟨h.pos, by rw [Int.natAbs_neg]; exact h.cop⟩
/-- a = n / d and b = n / d -/
theorem cross {a b n d x y : Int} (hb : b ≠ 0) (h1 : a * d = n * b) (h2 : n * y = x * d) (hd : d ≠ 0) : a * y = x * b := by
  have : (a * y) * d = (x * b) * d := by
    calc (a * y) * d = (a * d) * y := by rw [Int.mul_assoc, Int.mul_comm y, ← Int.mul_assoc]
      _ = (n * b) * y := by rw [h1]
      _ = (n * y) * b := by rw [Int.mul_assoc, Int.mul_comm b, ← Int.mul_assoc]
      _ = (x * d) * b := by rw [h2]
      _ = (x * b) * d := by rw [Int.mul_assoc, Int.mul_comm d, ← Int.mul_assoc]
  exact Int.eq_of_mul_eq_mul_right hd this
end PA

set_option maxHeartbeats 4000000
/-! texts: the parts of what was joined -/
namespace TS
open PySem PySem.StrLaws
/-- the code points -/
abbrev cs (x : Str) : List Nat := x.cps.toList
theorem cs_app (x y : Str) : cs (x ++ y) = cs x ++ cs y := by
  show (x.cps ++ y.cps).toList = _
  simp
theorem cs_inj {x y : Str} (h : cs x = cs y) : x = y := by
  cases x with
  | mk a =>
    cases y with
    | mk b => exact congrArg Str.mk (Array.toList_inj.mp h)
theorem cs_len (x : Str) : x.length = (cs x).length := by
  show x.cps.size = _
  simp
theorem at_get {x sub : Str} {i : Nat} (h : At x sub x.length i) {j : Nat} (hj : j < (cs sub).length) : (cs x)[i + j]? = (cs sub)[j]? := by
  obtain ⟨_, h2⟩ := h
  rw [subAt_eq] at h2
  have e : List.take sub.length (List.drop i (cs x)) = cs sub := by simpa using h2
  rw [← e, List.getElem?_take, if_pos (by rw [cs_len]; exact hj), List.getElem?_drop]
theorem at_of {x sub : Str} {pre post : List Nat} (h : cs x = pre ++ cs sub ++ post) : At x sub x.length pre.length := by
  refine ⟨?_, ?_⟩
  · rw [cs_len x, h, cs_len sub]
    simp
  · rw [subAt_eq]
    have : List.take sub.length (List.drop pre.length (cs x)) = cs sub := by
      rw [h, List.append_assoc, List.drop_left, cs_len, List.take_left]
    simpa using this
theorem sub_mid {x : Str} {pre mid post : List Nat} (h : cs x = pre ++ mid ++ post) {y : Str} (hy : cs y = mid) : Builtin.Str.strSub x pre.length (pre.length + mid.length) = y := by
  apply cs_inj
  show (Builtin.Str.strSub x pre.length (pre.length + mid.length)).cps.toList = _
  rw [strSub_toList, hy, show x.cps.toList = pre ++ mid ++ post from h]
  rw [show pre.length + mid.length - pre.length = mid.length from by omega, List.append_assoc, List.drop_left, List.take_left]
theorem sub_all (x : Str) : Builtin.Str.strSub x 0 x.length = x := by
  have := sub_mid (x := x) (pre := []) (mid := cs x) (post := []) (by simp) rfl
  rw [cs_len]
  simpa using this
theorem join_two (sep y z : Str) (r : List Str) : sep.join (y :: z :: r) = y ++ sep ++ sep.join (z :: r) := Str.join.eq_3 _ _ _ (by simp)
theorem chain_parts {x sep : Str} {c0 : Nat} {t : List Nat} (hsep : cs sep = c0 :: t) : ∀ (ys : List Str) (pre : List Nat) (cuts : List Nat) (f : Nat), ys ≠ [] → cs x = pre ++ cs (sep.join ys) → (∀ y ∈ ys, c0 ∉ cs y) →
    ChainG x sep x.length pre.length cuts f → (∀ k, f ≤ k → ¬ At x sep x.length k) → partsFrom x sep.length pre.length cuts = ys
  | [], _, _, _, h, _, _, _, _ => absurd rfl h
  | [y], pre, cuts, f, _, hx, hf, hc, hn => by
    rw [Str.join.eq_2] at hx
    cases cuts with
    | nil =>
      rw [partsFrom.eq_1]
      have e := sub_mid (x := x) (pre := pre) (mid := cs y) (post := []) (by simpa using hx) rfl
      have el : x.length = pre.length + (cs y).length := by rw [cs_len x, hx, List.length_append]
      rw [el, e]
    | cons c r =>
      rw [ChainG.eq_2] at hc
      obtain ⟨h1, h2, _⟩ := hc
      have h3 := at_get h2 (j := 0) (by rw [hsep]; simp)
      rw [hsep, Nat.add_zero, hx, List.getElem?_append_right h1] at h3
      exact absurd (List.mem_of_getElem? h3) (hf y (by simp))
  | y :: z :: r, pre, cuts, f, _, hx, hf, hc, hn => by
    rw [join_two, cs_app, cs_app] at hx
    have hat : At x sep x.length (pre.length + (cs y).length) := by
      have := at_of (x := x) (sub := sep) (pre := pre ++ cs y) (post := cs (sep.join (z :: r))) (by rw [hx]; simp)
      simpa using this
    have hno : ∀ k, pre.length ≤ k → k < pre.length + (cs y).length → ¬ At x sep x.length k := by
      intro k k1 k2 h2
      have h3 := at_get h2 (j := 0) (by rw [hsep]; simp)
      rw [hsep, Nat.add_zero, hx, List.getElem?_append_right k1, List.append_assoc, List.getElem?_append_left (by omega)] at h3
      exact hf y (by simp) (List.mem_of_getElem? h3)
    cases cuts with
    | nil =>
      rw [ChainG.eq_1] at hc
      exact absurd hat (hn _ (by omega))
    | cons c r' =>
      rw [ChainG.eq_2] at hc
      obtain ⟨h1, h2, h3, h4⟩ := hc
      have ec : c = pre.length + (cs y).length := by
        rcases Nat.lt_trichotomy c (pre.length + (cs y).length) with q | q | q
        · exact absurd h2 (hno c h1 q)
        · exact q
        · exact absurd hat (h3 _ (by omega) q)
      subst ec
      rw [partsFrom.eq_2]
      have e := sub_mid (x := x) (pre := pre) (mid := cs y) (post := cs sep ++ cs (sep.join (z :: r))) (by rw [hx]; simp) rfl
      rw [e]
      have hp : pre.length + (cs y).length + sep.length = (pre ++ cs y ++ cs sep).length := by rw [cs_len sep]; simp only [List.length_append]
      rw [hp] at h4 ⊢
      rw [chain_parts hsep (z :: r) (pre ++ cs y ++ cs sep) r' f (by simp) (by rw [hx]; simp) (fun y' hy' => hf y' (List.mem_cons_of_mem _ hy')) h4 hn]
theorem kind_pos (x : Str) : 1 ≤ Builtin.Str.strKind x := by
  unfold Builtin.Str.strKind
  split
  · exact Nat.le_refl _
  · split <;> omega
theorem split_join {sep : Str} {c0 : Nat} {t : List Nat} (hsep : cs sep = c0 :: t) (hk : Builtin.Str.strKind sep = 1) {ys : List Str} (h0 : ys ≠ []) (hf : ∀ y ∈ ys, c0 ∉ cs y) : Txt.split (Txt.join sep ys) sep = ys := by
  have ej : Txt.join sep ys = sep.join ys := glued_eq_join sep ys
  rw [ej]
  generalize hx : sep.join ys = x
  have h1 : 1 ≤ sep.length := by rw [cs_len, hsep]; simp
  obtain ⟨f, hc, hn⟩ := occ_tight x sep h1
  have hp := chain_parts (x := x) hsep ys [] _ f h0 (by rw [hx]; rfl) hf hc hn
  unfold Txt.split
  have k1 := kind_pos x
  by_cases hl : x.length < sep.length
  · rw [decide_eq_true hl, Bool.true_or, if_pos rfl]
    match ys, h0 with
    | [y], _ => rw [← hx, Str.join.eq_2]
    | y :: z :: r, _ =>
      rw [join_two] at hx
      rw [← hx, cs_len, cs_app, cs_app, cs_len sep] at hl
      simp only [List.length_append] at hl
      omega
  · rw [decide_eq_false hl, decide_eq_false (by omega : ¬ Builtin.Str.strKind x < Builtin.Str.strKind sep), Bool.false_or, if_neg (by simp)]
    split
    · rename_i he
      have e := List.isEmpty_iff.mp he
      rw [e] at hp
      rw [partsFrom.eq_1] at hp
      rw [← hp]
      show [x] = [Builtin.Str.strSub x 0 x.length]
      rw [sub_all]
    · rw [partsBetween_eq]
      exact hp
theorem partition_at {x a sep c : Str} (hx : cs x = cs a ++ cs sep ++ cs c) (hn : ∀ k, k < (cs a).length → ¬ At x sep x.length k) : Txt.partition x sep = (a, sep, c) := by
  have hat : At x sep x.length (cs a).length := at_of hx
  unfold Txt.partition
  rcases occ_head x sep 1 (Nat.le_refl _) with ⟨e, no⟩ | ⟨i, r, e, h1, h2⟩
  · exact absurd hat (no _)
  · rw [e]
    have ei : i = (cs a).length := by
      rcases Nat.lt_trichotomy i (cs a).length with q | q | q
      · exact absurd h1 (hn i q)
      · exact q
      · exact absurd hat (h2 _ q)
    subst ei
    have e1 := sub_mid (x := x) (pre := []) (mid := cs a) (post := cs sep ++ cs c) (by rw [hx]; simp) rfl
    have e2 := sub_mid (x := x) (pre := cs a ++ cs sep) (mid := cs c) (post := []) (by rw [hx]; simp) rfl
    simp only [List.length_nil, Nat.zero_add] at e1
    have el : x.length = (cs a ++ cs sep).length + (cs c).length := by rw [cs_len x, hx]; simp only [List.length_append]
    show (Builtin.Str.strSub x 0 (cs a).length, sep, Builtin.Str.strSub x ((cs a).length + sep.length) x.length) = _
    rw [e1, el, cs_len sep, ← List.length_append, e2]
theorem partition_no {x sep : Str} (hn : ∀ k, ¬ At x sep x.length k) : Txt.partition x sep = (x, Str.empty, Str.empty) := by
  unfold Txt.partition
  rcases occ_head x sep 1 (Nat.le_refl _) with ⟨e, no⟩ | ⟨i, r, e, h1, h2⟩
  · rw [e]
  · exact absurd h1 (hn i)
end TS

set_option maxHeartbeats 4000000
/-! the texts of row sets -/
namespace TS
open PySem PySem.StrLaws
def numS (n : Nat) : Str := Str.ofString (toString ((n : Nat) : Int))
/-- neither a blank nor a semicolon -/
def okw (w : Str) : Bool := (cs w).all fun c => c != 32 && c != 59
theorem num48 : ∀ n : Fin 48, (okw (numS n) && decide ((numS n).length ≤ 2) && Txt.isascii (numS n) && Txt.isdigit (numS n) && decide (intText? (numS n) = some ((n : Nat) : Int)) && decide (numS n ≠ "-")) = true := by decide +kernel
theorem num_ok {n : Nat} (h : n < 48) : okw (numS n) = true ∧ (numS n).length ≤ 2 ∧ Txt.isascii (numS n) = true ∧ Txt.isdigit (numS n) = true ∧ intText? (numS n) = some (n : Int) ∧ numS n ≠ "-" := by
  have q := num48 ⟨n, h⟩
  simp only [Bool.and_eq_true, decide_eq_true_eq] at q
  exact ⟨q.1.1.1.1.1, q.1.1.1.1.2, q.1.1.1.2, q.1.1.2, q.1.2, q.2⟩
theorem dash_ok : okw "-" = true ∧ (("-" : Str)).length ≤ 2 ∧ Txt.isdigit "-" = false := by decide +kernel
theorem digit_ascii : ∀ c : Fin 128, Unicode.isDigit (c : Nat) = (decide (48 ≤ (c : Nat)) && decide ((c : Nat) ≤ 57)) := by decide +kernel
theorem one_digit : ∀ a : Fin 10, intText? ⟨#[48 + (a : Nat)]⟩ = some ((a : Nat) : Int) := by decide +kernel
theorem two_digits : ∀ a b : Fin 10, intText? ⟨#[48 + (a : Nat), 48 + (b : Nat)]⟩ = some ((10 * (a : Nat) + (b : Nat) : Nat) : Int) := by decide +kernel
theorem fig {c : Nat} (h1 : c < 128) (h2 : Unicode.isDigit c = true) : ∃ a : Fin 10, c = 48 + (a : Nat) := by
  have q := digit_ascii ⟨c, h1⟩
  rw [h2] at q
  have q := q.symm
  simp only [Bool.and_eq_true, decide_eq_true_eq] at q
  exact ⟨⟨c - 48, by omega⟩, by show c = 48 + (c - 48); omega⟩
theorem read_any {w : Str} (h : w.length ≤ 2) (ha : Txt.isascii w = true) (hd : Txt.isdigit w = true) : ∃ n : Nat, n < 100 ∧ intText? w = some (n : Int) := by
  obtain ⟨a⟩ := w
  obtain ⟨l⟩ := a
  unfold Txt.isascii at ha
  unfold Txt.isdigit at hd
  have hl : l.length ≤ 2 := h
  match l, hl with
  | [], _ => simp [Str.length] at hd
  | [c], _ =>
    simp at ha hd
    obtain ⟨x, rfl⟩ := fig ha hd.2
    exact ⟨x, by omega, one_digit x⟩
  | [c, d], _ =>
    simp at ha hd
    obtain ⟨x, rfl⟩ := fig ha.1 hd.2.1
    obtain ⟨y, rfl⟩ := fig ha.2 hd.2.2
    exact ⟨10 * (x : Nat) + (y : Nat), by omega, two_digits x y⟩
/-- what read_state gives -/
def rdW (w : Str) : Option Nat := if w.length ≤ 2 ∧ Txt.isascii w = true ∧ Txt.isdigit w = true then (intText? w).map Int.toNat else none
theorem rdW_some {w : Str} (h1 : w.length ≤ 2) (h2 : Txt.isascii w = true) (h3 : Txt.isdigit w = true) : ∃ n : Nat, rdW w = some n ∧ intText? w = some (n : Int) := by
  obtain ⟨n, _, e⟩ := read_any h1 h2 h3
  exact ⟨n, by unfold rdW; rw [if_pos ⟨h1, h2, h3⟩, e]; rfl, e⟩
theorem rdW_none {w : Str} (h : ¬ (w.length ≤ 2 ∧ Txt.isascii w = true ∧ Txt.isdigit w = true)) : rdW w = none := if_neg h
abbrev Ln := Option Nat × Option Nat
def EOk (n : Nat) (o : Option Nat) : Prop := ∀ a, o = some a → a < n
def LOk (n : Nat) (l : Ln) : Prop := EOk n l.1 ∧ EOk n l.2
structure GoodL (ls : List Ln) : Prop where
  one : 1 ≤ ls.length
  most : ls.length ≤ 48
  ok : ∀ l ∈ ls, LOk ls.length l
theorem EOk.mono {n m : Nat} {o : Option Nat} (h : EOk n o) (l : n ≤ m) : EOk m o := fun a e => Nat.lt_of_lt_of_le (h a e) l
theorem LOk.mono {n m : Nat} {o : Ln} (h : LOk n o) (l : n ≤ m) : LOk m o := ⟨h.1.mono l, h.2.mono l⟩
theorem GoodL.all48 {ls : List Ln} (g : GoodL ls) : ∀ l ∈ ls, LOk 48 l := fun l h => (g.ok l h).mono g.most
theorem GoodL.ne {ls : List Ln} (g : GoodL ls) : ls ≠ [] := by
  rintro rfl
  exact absurd g.one (by decide)
def wS : Option Nat → Str
  | none => "-"
  | some n => numS n
theorem wS_ok {e : Option Nat} (h : EOk 48 e) : okw (wS e) = true ∧ (wS e).length ≤ 2 := by
  cases e with
  | none => exact ⟨dash_ok.1, dash_ok.2.1⟩
  | some n => exact ⟨(num_ok (h n rfl)).1, (num_ok (h n rfl)).2.1⟩
theorem rdW_wS {e : Option Nat} (h : EOk 48 e) : rdW (wS e) = e := by
  cases e with
  | none =>
    refine rdW_none fun z => ?_
    have q := z.2.2
    rw [show wS none = "-" from rfl, dash_ok.2.2] at q
    cases q
  | some n =>
    obtain ⟨_, h1, h2, h3, h4, _⟩ := num_ok (h n rfl)
    obtain ⟨m, e1, e2⟩ := rdW_some h1 h2 h3
    rw [h4] at e2
    have : n = m := by injection e2 with e2; omega
    rw [show wS (some n) = numS n from rfl, e1, this]
theorem wS_inj {e f : Option Nat} (h : EOk 48 e) (h' : EOk 48 f) (q : wS e = wS f) : e = f := by
  rw [← rdW_wS h, q, rdW_wS h']
def rowS (l : Ln) : Str := Str.join " " [wS l.1, wS l.2]
def txt (ls : List Ln) : Str := Str.join "; " (ls.map rowS)
theorem cs_sp : cs " " = [32] := by decide +kernel
theorem cs_semi : cs "; " = [59, 32] := by decide +kernel
theorem okw_no {w : Str} (h : okw w = true) {c : Nat} (hc : c = 32 ∨ c = 59) : c ∉ cs w := fun z => by
  have := List.all_eq_true.mp h c z
  rcases hc with rfl | rfl <;> cases this
theorem mem_join {sep : Str} {c : Nat} : ∀ {ys : List Str}, c ∈ cs (sep.join ys) → c ∈ cs sep ∨ ∃ y ∈ ys, c ∈ cs y
  | [], h => by
    rw [Str.join.eq_1] at h
    have : cs Str.empty = [] := rfl
    rw [this] at h
    cases h
  | [y], h => by
    rw [Str.join.eq_2] at h
    exact .inr ⟨y, by simp, h⟩
  | y :: z :: r, h => by
    rw [join_two, cs_app, cs_app] at h
    rcases List.mem_append.mp h with h | h
    · rcases List.mem_append.mp h with h | h
      · exact .inr ⟨y, by simp, h⟩
      · exact .inl h
    · rcases mem_join h with h | ⟨y', hy, h⟩
      · exact .inl h
      · exact .inr ⟨y', List.mem_cons_of_mem _ hy, h⟩
theorem join_eq (sep : Str) (ys : List Str) : Txt.join sep ys = sep.join ys := glued_eq_join sep ys
theorem split_row {l : Ln} (h : LOk 48 l) : Txt.split (rowS l) " " = [wS l.1, wS l.2] := by
  unfold rowS
  rw [← join_eq]
  refine split_join (c0 := 32) (t := []) cs_sp (by decide +kernel) (by simp) fun w hw => ?_
  simp only [List.mem_cons, List.not_mem_nil, or_false] at hw
  rcases hw with rfl | rfl
  · exact okw_no (wS_ok h.1).1 (.inl rfl)
  · exact okw_no (wS_ok h.2).1 (.inl rfl)
theorem semi_row {l : Ln} (h : LOk 48 l) : 59 ∉ cs (rowS l) := fun z => by
  unfold rowS at z
  rcases mem_join z with z | ⟨w, hw, z⟩
  · rw [cs_sp] at z
    simp at z
  · simp only [List.mem_cons, List.not_mem_nil, or_false] at hw
    rcases hw with rfl | rfl
    · exact okw_no (wS_ok h.1).1 (.inr rfl) z
    · exact okw_no (wS_ok h.2).1 (.inr rfl) z
theorem split_txt {ls : List Ln} (h0 : ls ≠ []) (h : ∀ l ∈ ls, LOk 48 l) : Txt.split (txt ls) "; " = ls.map rowS := by
  unfold txt
  rw [← join_eq]
  refine split_join (c0 := 59) (t := [32]) cs_semi (by decide +kernel) (by simpa using h0) fun y hy => ?_
  obtain ⟨l, hl, rfl⟩ := List.mem_map.mp hy
  exact semi_row (h l hl)
theorem row_back {p : Str} {a b : Option Nat} (h : Txt.split p " " = [wS a, wS b]) : p = rowS (a, b) := by
  rw [← StrLaws.join_split p " ", h]
  rfl
theorem txt_back {t : Str} {ls : List Ln} (h : Txt.split t "; " = ls.map rowS) : t = txt ls := by
  rw [← StrLaws.join_split t "; ", h]
  rfl
theorem rowS_inj {l l' : Ln} (h : LOk 48 l) (h' : LOk 48 l') (q : rowS l = rowS l') : l = l' := by
  have e := split_row h
  rw [q, split_row h'] at e
  simp only [List.cons.injEq, and_true] at e
  exact Prod.ext (wS_inj h.1 h'.1 e.1.symm) (wS_inj h.2 h'.2 e.2.symm)
theorem map_inj_on {α β : Type} {f : α → β} : ∀ {xs ys : List α}, (∀ x ∈ xs, ∀ y ∈ ys, f x = f y → x = y) → xs.map f = ys.map f → xs = ys
  | [], [], _, _ => rfl
  | [], _ :: _, _, e => by simp at e
  | _ :: _, [], _, e => by simp at e
  | x :: xs, y :: ys, h, e => by
    simp only [List.map_cons, List.cons.injEq] at e
    rw [h x (by simp) y (by simp) e.1, map_inj_on (fun a ha b hb => h a (List.mem_cons_of_mem _ ha) b (List.mem_cons_of_mem _ hb)) e.2]
theorem txt_inj {ls ls' : List Ln} (h0 : ls ≠ []) (h : ∀ l ∈ ls, LOk 48 l) (h0' : ls' ≠ []) (h' : ∀ l ∈ ls', LOk 48 l) (q : txt ls = txt ls') : ls = ls' := by
  have e := split_txt h0 h
  rw [q, split_txt h0' h'] at e
  exact (map_inj_on (fun x hx y hy => rowS_inj (h' x hx) (h y hy)) e).symm
theorem join_len (sep : Str) : ∀ ys : List Str, (Str.join sep ys).length + sep.length ≥ ys.length * sep.length ∧ (ys ≠ [] → (Str.join sep ys).length + sep.length = (ys.map (·.length)).sum + ys.length * sep.length)
  | [] => ⟨by simp, fun h => absurd rfl h⟩
  | [y] => by
    rw [Str.join.eq_2]
    simp
  | y :: z :: r => by
    obtain ⟨h1, h2⟩ := join_len sep (z :: r)
    have h2 := h2 (by simp)
    have e : (Str.join sep (y :: z :: r)).length = y.length + sep.length + (Str.join sep (z :: r)).length := by
      rw [join_two, Str.length_append, Str.length_append]
    have m1 : (y :: z :: r).length * sep.length = (z :: r).length * sep.length + sep.length := by
      rw [List.length_cons, Nat.succ_mul]
    rw [e, m1]
    refine ⟨by omega, fun _ => ?_⟩
    simp only [List.map_cons, List.sum_cons] at h2 ⊢
    omega
theorem split_len (x y : Str) (h : 1 ≤ y.length) : (Txt.split x y).length ≤ x.length + 1 := by
  have q := (join_len y (Txt.split x y)).1
  rw [StrLaws.join_split] at q
  have : (Txt.split x y).length * y.length ≤ x.length + y.length := q
  generalize hk : (Txt.split x y).length = k at this ⊢
  rcases Nat.lt_or_ge x.length k with z | z
  · have h3 : (x.length + 1) * y.length ≤ k * y.length := Nat.mul_le_mul_right _ z
    rw [Nat.succ_mul] at h3
    by_cases hz : k ≤ x.length + 1
    · exact hz
    · have h4 : (x.length + 2) * y.length ≤ k * y.length := Nat.mul_le_mul_right _ (by omega)
      have h5 : x.length ≤ x.length * y.length := Nat.le_mul_of_pos_right _ h
      rw [show (x.length + 2) * y.length = x.length * y.length + 2 * y.length from by rw [Nat.add_mul]] at h4
      omega
  · omega
theorem le_sum : ∀ {xs : List Nat} {a : Nat}, a ∈ xs → a ≤ xs.sum
  | [], _, h => by cases h
  | x :: xs, a, h => by
    rw [List.sum_cons]
    rcases List.mem_cons.mp h with rfl | h
    · exact Nat.le_add_right _ _
    · exact Nat.le_trans (le_sum h) (Nat.le_add_left _ _)
theorem part_len {x y p : Str} (h : p ∈ Txt.split x y) : p.length ≤ x.length := by
  have hne : Txt.split x y ≠ [] := fun z => by rw [z] at h; cases h
  have q := (join_len y (Txt.split x y)).2 hne
  rw [StrLaws.join_split] at q
  have h1 : 1 ≤ (Txt.split x y).length := by
    cases hh : Txt.split x y with
    | nil => exact absurd hh hne
    | cons _ _ => simp
  have h2 : y.length ≤ (Txt.split x y).length * y.length := Nat.le_mul_of_pos_left _ h1
  have h3 : p.length ≤ ((Txt.split x y).map (·.length)).sum := le_sum (List.mem_map.mpr ⟨p, h, rfl⟩)
  omega
theorem rowS_len {l : Ln} (h : LOk 48 l) : (rowS l).length ≤ 5 := by
  have q := (join_len " " [wS l.1, wS l.2]).2 (by simp)
  have h1 := (wS_ok h.1).2
  have h2 := (wS_ok h.2).2
  have e : (" " : Str).length = 1 := by decide +kernel
  rw [e] at q
  simp only [List.map_cons, List.map_nil, List.sum_cons, List.sum_nil, List.length_cons, List.length_nil] at q
  show (Str.join " " [wS l.1, wS l.2]).length ≤ 5
  omega
theorem sum_le {α : Type} {f : α → Nat} {k : Nat} : ∀ {xs : List α}, (∀ x ∈ xs, f x ≤ k) → (xs.map f).sum ≤ k * xs.length
  | [], _ => by simp
  | x :: xs, h => by
    have ih := sum_le (xs := xs) fun y hy => h y (List.mem_cons_of_mem _ hy)
    have := h x (by simp)
    simp only [List.map_cons, List.sum_cons, List.length_cons]
    rw [Nat.mul_succ]
    omega
theorem rows_sum {ls : List Ln} (h : ∀ l ∈ ls, LOk 48 l) : ((ls.map rowS).map (·.length)).sum ≤ 5 * ls.length := by
  rw [List.map_map]
  exact sum_le fun l hl => rowS_len (h l hl)
theorem txt_len {ls : List Ln} (h : ∀ l ∈ ls, LOk 48 l) (h0 : ls ≠ []) : (txt ls).length ≤ 7 * ls.length := by
  have q := (join_len "; " (ls.map rowS)).2 (by simpa using h0)
  have e : ("; " : Str).length = 2 := by decide +kernel
  rw [e, List.length_map] at q
  have := rows_sum h
  show (Str.join "; " (ls.map rowS)).length ≤ _
  omega
end TS

set_option maxHeartbeats 4000000
/-! list(text): a new list of its signs -/
namespace ZS
open PySem PySem.Spec PyProof.Rows
section
variable {prog : Program} {w : World} {A : Around} {E : Value → Shared → Prop} {s : Shared}
theorem hint_str {x : Str} {t : Tok} {Q : Bool → Shared → Prop} (h : Q false s) : wpAny (model prog w) A (Builtin.List.listLengthHint (.str x t)) Q E s := by
  have hT : s.TypeIs (.str x t) "str" := typeIs_str s x t
  unfold Builtin.List.listLengthHint
  refine wpAny_bind (wpAny_specialOf hT PySem.F.slot_str_len.lookup ?_)
  generalize hid : ("str.__len__" : String) = id0
  wp_delta
  rw [show splitId id0 = some ("str", "__len__") from by subst hid; decide +kernel]
  subst hid
  refine wpAny_bind (wpAny_isInstance (T := "str") (b := true) hT (by rw [isSubtype_type]; kernel_rfl) ?_)
  refine wpAny_ite_split (fun hab => absurd hab (by decide)) (fun _ => ?_)
  refine wpAny_ite_split (fun _ => ?_) (fun hab => absurd (by decide +kernel) hab)
  refine wpAny_bind (wpAny_typeOf hT ?_)
  exact wpAny_pure h
theorem extend_str {R : Result → Shared → Prop} (hh : A.handled = none) (x : Str) (t : Tok) (S : Addr) (res : Value) (c₀ : Nat) (hS : s.heap.get? S = some { cls := .type "list", data := .seq #[] c₀ })
    (hR : ∀ h' tk acc' c', (∀ b o, b ≠ S → s.heap.get? b = some o → h'.get? b = some o) → h'.get? S = some { cls := .type "list", dict := none, data := .seq acc' c', slots := #[] } →
      ItemsOf (SignAt x) acc' x.cps.size → R (.ok (.ret res)) { s with heap := h', toks := tk }) (hn : x.cps.size ≤ sizeLine) :
    wpAny (model prog w) A.in1 (Builtin.List.listExtendWith (.ref S) (.str x t) res)
      (fun fin s' => match fin with | .done f => R (.ok f) s' | .again c' => c'.quiet = true ∧ codeAny (model prog w) A c' R s') (fun e s' => R (.error e) s') s := by
  have hSI : S ≠ s.heap.objs.size := Nat.ne_of_lt (Heap.lt_size hS)
  have hSf : S ∉ [s.heap.objs.size] := fun hm => hSI (List.mem_singleton.mp hm)
  unfold Builtin.List.listExtendWith
  refine wpAny_bind (wpAny_typeOf (T := "str") (v := .str x t) (typeIs_str s x t) ?_)
  have h1 : Builtin.List.listSameRef (.ref S) (.str x t) = false := rfl
  have h2 : (Value.type "str" == Value.type "list") = false := by decide
  have h3 : (Value.type "str" == Value.type "tuple") = false := by decide
  simp only [h1, h2, h3, Bool.or_false, Bool.false_eq_true, if_false]
  refine wpAny_bind ?_
  cases ha : x.cps.all (· < 128)
  · refine wpAny_pyIter_wide ha ?_
    refine wpAny_bind (wpAny_holding (hint_str ?_))
    rw [if_neg (by first | decide | decide +kernel)]
    have W := Walks.strWide (prog := prog) (w := w) (A := A.in1) hh s.heap.objs.size x t
    have hst : (s.heap.push { cls := .type "str_iterator", data := .fields #[.str x t, .int 0 0] }).IsStrIter s.heap.objs.size "str_iterator" x t 0 := ⟨_, Heap.get?_push_size _ rfl, rfl, rfl⟩
    refine wpAny_pure ⟨plainId_quiet PySem.F.plain_extend_loop _, codeAny_extend_loopS W.toS hn _ hSf _ x.cps.size 0 _ _ _ rfl (Nat.zero_le _) hst (Heap.get?_push_of_some _ hS) (ItemsOf.nil _) fun s' acc' c' hm hS' hacc => ?_⟩
    rw [Moved.eq_with hm]
    refine hR s'.heap s'.toks acc' c' (fun b ob hb e => hm.heap b ob (fun hmem => ?_) (Heap.get?_push_of_some _ e)) hS' hacc
    rcases List.mem_cons.mp hmem with e' | hmem
    · exact hb e'
    · exact absurd (Heap.lt_size e) (by rw [List.mem_singleton.mp hmem]; exact Nat.lt_irrefl _)
  · refine wpAny_pyIter_ascii ha ?_
    refine wpAny_bind (wpAny_holding (hint_str ?_))
    rw [if_neg (by first | decide | decide +kernel)]
    have W := Walks.strAscii (prog := prog) (w := w) (A := A.in1) hh s.heap.objs.size x t
    have hst : (s.heap.push { cls := .type "str_ascii_iterator", data := .fields #[.str x t, .int 0 0] }).IsStrIter s.heap.objs.size "str_ascii_iterator" x t 0 := ⟨_, Heap.get?_push_size _ rfl, rfl, rfl⟩
    refine wpAny_pure ⟨plainId_quiet PySem.F.plain_extend_loop _, codeAny_extend_loopS W.toS hn _ hSf _ x.cps.size 0 _ _ _ rfl (Nat.zero_le _) hst (Heap.get?_push_of_some _ hS) (ItemsOf.nil _) fun s' acc' c' hm hS' hacc => ?_⟩
    rw [Moved.eq_with hm]
    refine hR s'.heap s'.toks acc' c' (fun b ob hb e => hm.heap b ob (fun hmem => ?_) (Heap.get?_push_of_some _ e)) hS' hacc
    rcases List.mem_cons.mp hmem with e' | hmem
    · exact hb e'
    · exact absurd (Heap.lt_size e) (by rw [List.mem_singleton.mp hmem]; exact Nat.lt_irrefl _)
theorem list_init_str {R : Result → Shared → Prop} (hh : A.handled = none) (x : Str) (t : Tok) (S : Addr) (hS : s.heap.get? S = some { cls := .type "list", data := .seq #[] })
    (hR : ∀ h' tk acc' c', (∀ b o, b ≠ S → s.heap.get? b = some o → h'.get? b = some o) → h'.get? S = some { cls := .type "list", dict := none, data := .seq acc' c', slots := #[] } →
      ItemsOf (SignAt x) acc' x.cps.size → R (.ok (.ret .none)) { s with heap := h', toks := tk }) (hn : x.cps.size ≤ sizeLine) :
    wpAny (model prog w) A.in1 (Builtin.«list.__init__» ⟨[.ref S, .str x t], []⟩)
      (fun fin s' => match fin with | .done f => R (.ok f) s' | .again c' => c'.quiet = true ∧ codeAny (model prog w) A c' R s') (fun e s' => R (.error e) s') s := by
  show wpAny _ _ (do let old ← Builtin.List.listItems (.ref S); Builtin.List.listUpdate (.ref S) (fun _ => #[]); letGo old.toList.reverse; Builtin.List.listExtendWith (.ref S) (.str x t) .none) _ _ s
  refine wpAny_bind ?_
  unfold Builtin.List.listItems
  refine wpAny_bind (wpAny_seqItems hS rfl (wpAny_pure ?_))
  show wpAny _ _ (updateSeq S (fun _ => #[]) >>= fun _ => letGo (#[] : Array Value).toList.reverse >>= fun _ => Builtin.List.listExtendWith (.ref S) (.str x t) .none) _ _ s
  refine wpAny_bind (wpAny_updateSeq hS rfl ?_)
  have hS₂ := Heap.get?_update_self (Obj.mapSeq (fun _ => (#[] : Array Value))) hS rfl
  have oth : ∀ b o, b ≠ S → s.heap.get? b = some o → (s.heap.update S (Obj.mapSeq (fun _ => (#[] : Array Value)))).get? b = some o :=
    fun b o hb e => (Heap.get?_update_other _ _ (Ne.symm hb)).trans e
  refine wpAny_bind (wpAny_letGo ?_)
  refine extend_str hh x t S .none _ hS₂ (fun h' tk acc' c' hk hS' hacc => ?_) hn
  exact hR h' tk acc' c' (fun b o hb e => hk b o hb (oth b o hb e)) hS' hacc
theorem call_list_strW {x : Str} {t : Tok} {Q : Value → Shared → Prop} (hh : A.handled = none) (hn : x.cps.size ≤ sizeLine)
    (hQ : ∀ h' tk acc' c', (∀ b o, s.heap.get? b = some o → h'.get? b = some o) →
      h'.get? s.heap.objs.size = some { cls := .type "list", dict := none, data := .seq acc' c', slots := #[] } → ItemsOf (SignAt x) acc' x.cps.size → Q (.ref s.heap.objs.size) { s with heap := h', toks := tk }) :
    wpAny (model prog w) A (call (.type "list") [.str x t]) Q E s := by
  refine callType_codes (Q₁ := fun obj s₁ => obj = .ref s.heap.objs.size ∧ s₁ = { s with heap := s.heap.push { cls := .type "list", data := .seq #[] } }) PySem.F.called_list (PySem.F.typeCall_list_1 _) PySem.F.entry_list_init
    (code_list_new _ ⟨rfl, rfl⟩) fun obj s₁ h₁ => ?_
  obtain ⟨rfl, rfl⟩ := h₁
  have hS : (s.heap.push { cls := .type "list", data := .seq #[] }).get? s.heap.objs.size = some { cls := .type "list", data := .seq #[] } := Heap.get?_push_size _ rfl
  refine ⟨⟨_, hS, rfl⟩, PySem.F.args_list_init_2 _ _, list_init_str (A := A.in1) hh x t _ hS (fun h' tk acc' c' hk hS' hacc => ?_) hn⟩
  exact ⟨rfl, hQ h' tk acc' c' (fun b o e => hk b o (Nat.ne_of_lt (Heap.lt_size e)) (Heap.get?_push_of_some _ e)) hS' hacc⟩
end
end ZS
namespace L2
open PySem PySem.Spec PyProof.Rows
/-- the signs of a text -/
def signs (x : Str) : List Str := x.cps.toList.map fun c => ⟨#[c]⟩
theorem call_list_str {X : Cx} (hc : X.calm = true) : CallR X (.type "list") (fun xs H Q => ∃ x : Str, xs = [.str x] ∧ x.length ≤ sizeLine ∧ ∀ q, H q = none → Q (.ref q) (upd H q (.lst ((signs x).map V.str)))) := by
  intro pins s σ H xs us Q I r h
  obtain ⟨x, rfl, hz, q⟩ := h
  cases r with
  | cons rx rr =>
    cases rr
    obtain ⟨t, rfl⟩ := rx
    refine ZS.call_list_strW (I.ok.hd hc) hz fun h' tk acc c' hk e hi => ?_
    have hl : x.cps.toList.length = x.cps.size := by simp
    refine ⟨.ref s.heap.objs.size, upd H s.heap.objs.size (.lst ((signs x).map V.str)), I.laid hk (Nat.le_refl _) ⟨by unfold signs; rw [List.length_map, List.length_map, hl]; exact hz, acc.toList, c', ?_, by rw [Array.toArray_toList]; exact e⟩, rfl, q _ (I.hok.fresh (Nat.le_refl _))⟩
    refine vals_of_idx _ _ (by unfold signs; rw [List.length_map, List.length_map, hl, Array.length_toList]; exact hi.1) fun j u hj => ?_
    obtain ⟨c, t', hcx, rfl⟩ := hi.2 j u (by rw [← Array.getElem?_toList]; exact hj)
    exact ⟨.str ⟨#[c]⟩, by unfold signs; rw [List.getElem?_map, List.getElem?_map, Array.getElem?_toList, hcx]; rfl, ⟨_, rfl⟩⟩
end L2

set_option maxHeartbeats 4000000
namespace PA
open PySem L2 RZ
open C8 (pss_cut tCut)
open TS (Ln EOk LOk GoodL)
def top (i : Nat) : Stmt := PySem.Challenge.pw_pairahead_k18_row_sets_made.main.body.getD i (.Pass ⟨0, 0, 0, 0⟩)
abbrev sIsInt : Stmt := top 6
abbrev sBelow : Stmt := top 7
abbrev sReadSt : Stmt := top 8
abbrev sInit : Stmt := inClass (top 24) 0
abbrev sRead : Stmt := inClass (top 24) 1
abbrev sStr : Stmt := inClass (top 24) 4
abbrev sCheck : Stmt := top 25
abbrev sIsRow : Stmt := top 26
abbrev sWord : Stmt := top 27
abbrev sDraw : Stmt := top 31
abbrev sStart : Stmt := top 32
abbrev sPick : Stmt := top 33
abbrev sSame : Stmt := top 34
abbrev sHanded : Stmt := top 35
abbrev sEntry : Stmt := top 36
abbrev sLines : Stmt := top 37
abbrev sLEntry : Stmt := top 38
abbrev sReading : Stmt := top 39
abbrev sChanged : Stmt := top 40
abbrev sFault : Stmt := top 41
abbrev sLaw : Stmt := top 42
/-! ### cells: what stands in a table, right or wrong -/
inductive Cell (H : Hp) : V → Prop
  | int (i : Int) : Cell H (.int i)
  | bl (b : Bool) : Cell H (.bl b)
  | non : Cell H .non
  | str (s : Str) : Cell H (.str s)
  | tup {a : Addr} {xs : List V} (h : H a = some (.tup xs)) : Cell H (.ref a)
theorem Cell.kin {H H' : Hp} {v : V} (c : Cell H v) (k : ∀ c xs, H c = some (.tup xs) → H' c = some (.tup xs)) : Cell H' v := by
  cases c with
  | int i => exact .int i
  | bl b => exact .bl b
  | non => exact .non
  | str s => exact .str s
  | tup h => exact .tup (k _ _ h)
def isI : V → Bool
  | .int _ => true
  | _ => false
def isB : V → Bool
  | .bl _ => true
  | _ => false
def below (n : Nat) : V → Bool
  | .int i => decide (0 ≤ i) && decide (i < (n : Int))
  | _ => false
def entOk (n : Nat) (v : V) : Bool := decide (v = .non) || below n v
def rowOk (n : Nat) (xs : List V) : Bool := decide (xs.length = 2) && xs.all (entOk n)
def tabOk (rows : List (List V)) : Bool := (decide (1 ≤ rows.length) && decide (rows.length ≤ 48)) && rows.all (rowOk rows.length)
theorem Cell.ty {K : PySem.W.Frag} {H : Hp} {v : V} (c : Cell H v) : ∃ t, TyX K H v (.type t) ∧ PySem.W.kitOne K (.type t) (.type "int") = some (isI v || isB v) ∧ PySem.W.kitOne K (.type t) (.type "bool") = some (isB v) := by
  cases c with
  | int i => exact ⟨"int", .base (.int i), kit_ty (b := "int") (r := true) (by decide +kernel), kit_ty (b := "bool") (r := false) (by decide +kernel)⟩
  | bl b => exact ⟨"bool", .base (.bl b), kit_ty (b := "int") (r := true) (by decide +kernel), kit_ty (b := "bool") (r := true) (by decide +kernel)⟩
  | non => exact ⟨"NoneType", .base .non, kit_ty (b := "int") (r := false) (by decide +kernel), kit_ty (b := "bool") (r := false) (by decide +kernel)⟩
  | str s => exact ⟨"str", .base (.str s), kit_ty (b := "int") (r := false) (by decide +kernel), kit_ty (b := "bool") (r := false) (by decide +kernel)⟩
  | tup h => exact ⟨"tuple", .base (.tup h), kit_ty (b := "int") (r := false) (by decide +kernel), kit_ty (b := "bool") (r := false) (by decide +kernel)⟩
/-! ### data: entries, lines -/
def ev : Option Nat → V
  | none => .non
  | some n => .int (n : Int)
def lv (l : Ln) : List V := [ev l.1, ev l.2]
abbrev isLn : Hp → Addr → Ln → Prop := TupOf lv
theorem cell_ev {H : Hp} (o : Option Nat) : Cell H (ev o) := by
  cases o with
  | none => exact .non
  | some n => exact .int n
theorem ent_ev {n : Nat} {o : Option Nat} : entOk n (ev o) = true ↔ EOk n o := by
  cases o with
  | none => exact ⟨(fun _ a e => by cases e), fun _ => rfl⟩
  | some m =>
    have e : entOk n (ev (some m)) = (decide ((0 : Int) ≤ (m : Int)) && decide ((m : Int) < (n : Int))) := by
      show (decide (V.int (m : Int) = .non) || _) = _
      rw [decide_eq_false (by intro z; cases z), Bool.false_or]
      rfl
    rw [e, Bool.and_eq_true, decide_eq_true_eq, decide_eq_true_eq]
    exact ⟨fun h a q => by cases q; omega, fun h => ⟨by omega, by have := h m rfl; omega⟩⟩
theorem row_lv {n : Nat} {l : Ln} : rowOk n (lv l) = true ↔ LOk n l := by
  have e : rowOk n (lv l) = (entOk n (ev l.1) && entOk n (ev l.2)) := by
    show (decide (2 = 2) && (entOk n (ev l.1) && (entOk n (ev l.2) && true))) = _
    simp
  rw [e, Bool.and_eq_true, ent_ev, ent_ev]
  exact Iff.rfl
theorem tab_lv {ls : List Ln} : tabOk (ls.map lv) = true ↔ GoodL ls := by
  unfold tabOk
  rw [List.length_map, Bool.and_eq_true, Bool.and_eq_true, decide_eq_true_eq, decide_eq_true_eq, List.all_eq_true]
  constructor
  · rintro ⟨⟨h1, h2⟩, h3⟩
    exact ⟨h1, h2, fun l hl => row_lv.mp (h3 _ (List.mem_map.mpr ⟨l, hl, rfl⟩))⟩
  · rintro ⟨h1, h2, h3⟩
    refine ⟨⟨h1, h2⟩, fun x hx => ?_⟩
    obtain ⟨l, hl, rfl⟩ := List.mem_map.mp hx
    exact row_lv.mpr (h3 l hl)
structure Txt (K : PySem.W.Frag) (mg : Str → Option Value) : Prop where
  isi : mg "isinstance" = none
  int_ : mg "int" = none
  bool_ : mg "bool" = none
  list_ : mg "list" = none
  tup_ : mg "tuple" = none
  str_ : mg "str" = none
  len_ : mg "len" = none
  all_ : mg "all" = none
  zip_ : mg "zip" = none
  range_ : mg "range" = none
  max_ : mg "max" = none
  most : ∃ t, mg "MOST_ROWS" = some (.int 48 t)
/-- an error class X, caught as P -/
structure TxtX (K : PySem.W.Frag) (mg : Str → Option Value) (X P : Addr) : Prop where
  x : PySem.W.excIn K X [.type "ValueError", .type "Exception", .type "BaseException", .type "object"] "ValueError.__new__" = true
  g : mg "InvalidRows" = some (.ref X)
  k : PySem.W.keepIn K (.ref X) = true
  b : PySem.W.subIn K (.ref X) (.type "BaseException") = some true
  t : PySem.W.typeIn K (.ref X) = some (.type "type")
  gP : mg "PairError" = some (.ref P)
  e : PySem.W.exmOne K (.ref X) (.ref P) = some true
  ex : PySem.W.exmOne K (.ref X) (.ref X) = some true
/-! ### promises -/
def spIsInt : Sp := fun vs H Q _ => ∃ v, vs = [v] ∧ Cell H v ∧ Q (.bl (isI v)) H
def spBelow : Sp := fun vs H Q _ => ∃ (v : V) (n : Nat), vs = [v, .int (n : Int)] ∧ Cell H v ∧ Q (.bl (below n v)) H
def spIsRow : Sp := fun vs H Q _ => ∃ (p : Addr) (xs : List V) (n : Nat), vs = [.ref p, .int (n : Int)] ∧ H p = some (.tup xs) ∧ (∀ x ∈ xs, Cell H x) ∧ ∀ H', Same H H' → Q (.bl (rowOk n xs)) H'
section
variable {P : Program} {w : World} {K : PySem.W.Frag} {mg : Str → Option Value} {base : Heap} {C : Addr}
theorem scIsInt : FnScope ["value"] ["value"] (defScope sIsInt) := ⟨rfl, rfl, rfl, by decide +kernel, rfl, by decide +kernel, by decide +kernel⟩
theorem ok_isInt {f : Addr} {fd : FuncData} (F : Fun K "is_integer" "is_integer" sIsInt f fd) (T : Txt K mg) : FnOk P w K mg base CX0 1 f fd ["value"] spIsInt := by
  refine F.ok scIsInt (fun vs H Q E h => ?_) (fun cdv A outer s H vs Q E hr h => ?_)
  · obtain ⟨i, rfl, _⟩ := h
    rfl
  · obtain ⟨v, rfl, hc, k⟩ := h
    refine ⟨_, pss_one (ps_ret (pe_and (pe_callB call_isi (by rfl) T.isi boot_isi (pa_cons (pv 0) (pa_cons (pe_bltn (v := .ty "int") (by rfl) T.int_ boot_int' rfl) pa_nil)))
      (pe_one (pe_not (pe_callB call_isi (by rfl) T.isi boot_isi (pa_cons (pv 0) (pa_cons (pe_bltn (v := .ty "bool") (by rfl) T.bool_ boot_bool' rfl) pa_nil))))))), ?_⟩
    obtain ⟨t, ht, k1, k2⟩ := hc.ty (K := K)
    refine ⟨_, rfl, _, _, _, _, _, rfl, .ty _, ht, k1, _, rfl, ?_⟩
    cases v with
    | int i => exact iteT ⟨_, rfl, _, _, _, _, _, rfl, .ty _, ht, k2, _, rfl, k⟩
    | bl b => exact iteT ⟨_, rfl, _, _, _, _, _, rfl, .ty _, ht, k2, _, rfl, k⟩
    | _ => exact iteF k
theorem scBelow : FnScope ["value", "count"] ["value", "count"] (defScope sBelow) := ⟨rfl, rfl, rfl, by decide +kernel, rfl, by decide +kernel, by decide +kernel⟩
theorem ok_below {f g : Addr} {fd gd : FuncData} (F : Fun K "is_below" "is_below" sBelow f fd) (T : Txt K mg) (D : Df K mg "is_integer" sIsInt g gd ["value"]) : FnOk P w K mg base CX0 2 f fd ["value", "count"] spBelow := by
  have G : FnOk P w K mg base CX0 1 g gd ["value"] spIsInt := ok_isInt D.F T
  refine F.ok scBelow (fun vs H Q E h => ?_) (fun cdv A outer s H vs Q E hr h => ?_)
  · obtain ⟨v, c, rfl, _⟩ := h
    rfl
  · obtain ⟨v, n, rfl, hc, k⟩ := h
    refine ⟨_, pss_one (ps_ret (pe_and (pe_call G hr rfl D.M D.F.kp D.B .nil pass0 (pa_cons (pv 0) pa_nil)) (pe_one (pe_chain op_le op_lt pe_int (pv 0) (pv 1))))), ?_⟩
    refine ⟨_, rfl, v, rfl, hc, _, rfl, ?_⟩
    cases v with
    | int i =>
      refine iteT ⟨_, rfl, _, _, rfl, rfl, _, rfl, ifD_2 (fun h0 => ⟨_, rfl, _, _, rfl, rfl, ?_⟩) fun h0 => ?_⟩
      · show Q (V.bl (decide (i < (n : Int)))) H
        have e : below n (.int i) = decide (i < (n : Int)) := by show (decide (0 ≤ i) && decide (i < (n : Int))) = _; rw [decide_eq_true h0, Bool.true_and]
        rw [← e]
        exact k
      · have e : below n (.int i) = false := by show (decide (0 ≤ i) && decide (i < (n : Int))) = _; rw [decide_eq_false h0, Bool.false_and]
        rw [e] at k
        exact k
    | _ => exact iteF k
theorem scIsRow : FnScope ["row", "count", "entry"] ["row", "count"] (defScope sIsRow) := ⟨rfl, rfl, rfl, by decide +kernel, rfl, by decide +kernel, by decide +kernel⟩
theorem ok_isRow {f g1 g2 : Addr} {fd gd1 gd2 : FuncData} (F : Fun K "_is_row" "_is_row" sIsRow f fd) (T : Txt K mg) (D1 : Df K mg "is_integer" sIsInt g1 gd1 ["value"]) (D2 : Df K mg "is_below" sBelow g2 gd2 ["value", "count"]) : FnOk P w K mg base CX0 3 f fd ["row", "count"] spIsRow := by
  have G2 : FnOk P w K mg base CX0 2 g2 gd2 ["value", "count"] spBelow := ok_below D2.F T D1
  refine F.ok scIsRow (fun vs H Q E h => ?_) (fun cdv A outer s H vs Q E hr h => ?_)
  · obtain ⟨p, _, _, rfl, _⟩ := h
    rfl
  · obtain ⟨p, xs, n, rfl, hp, hc, kk⟩ := h
    refine ⟨_, pss_one (ps_ret (pe_and (pe_cmpR op_eq (pe_callB call_len_seq (by rfl) T.len_ PySem.boot_len (pa_cons (pv 0) pa_nil)) pe_int (nomark _))
      (pe_one (pe_callB (cr_all rfl) (by rfl) T.all_ boot_all' (pa_cons (pe_lc (own := [("entry", 2)]) (g := gName 2) (tt := tYes) (by rfl) scIsRow.nd (pi_sq (pv 0)) (blkOk_by (N := ["row", "count", "entry"]) (sc := defScope sIsRow) (by decide +kernel))
          (fun _ _ _ _ _ => pg_name (i := 2) scIsRow.nd rfl (Or.inl rfl)) (fun _ _ _ _ _ => pts_nil)
          (fun _ _ _ _ _ => pe_or (pe_cmp (pc_isN (pv 2))) (pe_one (pe_call G2 hr rfl D2.M D2.F.kp D2.B .nil pass0 (pa_cons (pv 2) (pa_cons (pv 1) pa_nil)))))) pa_nil))))), ?_⟩
    refine ⟨_, rfl, p, _, rfl, .inr (SqT.of hp), rfl, _, rfl, ?_⟩
    by_cases h2 : xs.length = 2
    rotate_left
    · have e : rowOk n xs = false := by unfold rowOk; rw [decide_eq_false h2, Bool.false_and]
      rw [e] at kk
      refine ifD_no (by intro z; injection z with z; exact h2 (by omega)) ?_
      exact kk H fun _ _ e => e
    refine ifD_yes (by rw [h2]; rfl) ?_
    refine ⟨.t, _, rfl, p, rfl, ⟨_, SqT.of hp⟩, fun Dd hD => ?_⟩
    refine lc_same (xs := xs) (walk_k (k := .t)) (by rw [h2]; decide) hD (fun H' s' => SqT.of (s' _ _ hp)) ((xs.map (entOk n)).map V.bl) (by simp) (fun i x y H' Φ Ψ hx hy sm k => ?_) fun H' s' hd => ?_
    · rw [List.getElem?_map, List.getElem?_map, hx] at hy
      cases hy
      have cx := (hc x (List.mem_of_getElem? hx)).kin (H' := H') fun c xs e => sm _ _ e
      refine ⟨rfl, ?_⟩
      dsimp only [tYes]
      rw [if_pos rfl]
      refine ⟨_, rfl, decide (x = .non), rfl, ?_⟩
      by_cases hn : x = .non
      · subst hn
        exact iteT (k H' fun _ _ e => e)
      · rw [decide_eq_false hn]
        refine iteF ⟨_, rfl, _, rfl, x, n, rfl, cx, ?_⟩
        have e : entOk n x = below n x := by unfold entOk; rw [decide_eq_false hn, Bool.false_or]
        rw [← e]
        exact k H' fun _ _ e => e
    · refine ⟨Dd, _, rfl, SqL.of hd, ?_⟩
      have e : (xs.map (entOk n)).all id = rowOk n xs := by
        unfold rowOk
        rw [decide_eq_true h2, Bool.true_and, List.all_map]
        rfl
      rw [e]
      exact kk H' s'
end
end PA

set_option maxHeartbeats 4000000
namespace PA
open PySem L2 RZ
open C8 (pss_cut tCut)
open TS (Ln EOk LOk GoodL)
abbrev isC : Hp → Addr → List V → Prop := TupOf id
/-- a tuple or a list at c of the cells -/
def TLc (H : Hp) (c : Addr) (r : List V) : Prop := H c = some (.tup r) ∨ H c = some (.lst r)
def rsf (T : Addr) : List (Str × V) := putF "rows" (.ref T) []
theorem rsf_rows (T : Addr) : (rsf T).lookup ("rows" : Str) = some (.ref T) := by
  unfold rsf
  rw [lookup_putF, if_pos rfl]
theorem rsf_no (T : Addr) {m : Str} (h1 : ¬ m = "rows") : (rsf T).lookup m = none := by
  unfold rsf
  rw [lookup_putF, if_neg h1]
  all_goals rfl
/-- a RowSet of these rows stands at p -/
def RowsAt (C : Addr) (H : Hp) (p : Addr) (rows : List (List V)) : Prop := ∃ dx T refs, H p = some (.ins C dx (rsf T)) ∧ H T = some (.tup refs) ∧ Ea H isC refs rows
/-- what the class RowSet is, and Found -/
structure TxtC (K : PySem.W.Frag) (mg : Str → Option Value) (C Fo : Addr) : Prop where
  cl : Cls K C
  nR : NoAttr K C "rows"
  mgC : mg "RowSet" = some (.ref C)
  mgF : mg "Found" = some (.ref Fo)
  kl : PySem.W.kitOne K (.type "list") (.ref Fo) = some false
  kt : PySem.W.kitOne K (.type "tuple") (.ref Fo) = some false
def spCheck (X : Addr) : Sp := fun vs H Q E => ∃ (R : Addr) (refs : List V) (rows : List (List V)), vs = [.ref R] ∧ H R = some (.tup refs) ∧ Ea H isC refs rows ∧ rows.length ≤ 9000 ∧ (∀ r ∈ rows, ∀ x ∈ r, Cell H x) ∧
  (tabOk rows = true → ∀ H', Same H H' → Q .non H') ∧ (tabOk rows = false → ∀ H', Same H H' → E (.ref X) none H')
def spInit (C X : Addr) : Sp := fun vs H Q E => ∃ (p dx L : Addr) (refs : List V) (rows : List (List V)), vs = [.ref p, .ref L] ∧ H p = some (.ins C dx []) ∧ (H L = some (.lst refs) ∨ H L = some (.tup refs)) ∧ Ea H TLc refs rows ∧ rows.length ≤ 9000 ∧ (∀ r ∈ rows, ∀ x ∈ r, Cell H x) ∧
  (tabOk rows = true → ∀ H', RowsAt C H' p rows → (∀ c o, H c = some o → c ≠ p → H' c = some o) → Q .non H') ∧
  (tabOk rows = false → ∀ H', (∀ c o, H c = some o → c ≠ p → H' c = some o) → E (.ref X) none H')
section
variable {P : Program} {w : World} {K : PySem.W.Frag} {mg : Str → Option Value} {base : Heap} {C X PE_ Fo : Addr}
theorem scCheck : FnScope ["rows", "row"] ["rows"] (defScope sCheck) := ⟨rfl, rfl, rfl, by decide +kernel, rfl, by decide +kernel, by decide +kernel⟩
theorem ok_check {f g1 g2 g3 : Addr} {fd gd1 gd2 gd3 : FuncData} (F : Fun K "_check_rows" "_check_rows" sCheck f fd) (T : Txt K mg) (TX : TxtX K mg X PE_) (D1 : Df K mg "is_integer" sIsInt g1 gd1 ["value"]) (D2 : Df K mg "is_below" sBelow g2 gd2 ["value", "count"]) (D3 : Df K mg "_is_row" sIsRow g3 gd3 ["row", "count"]) : FnOk P w K mg base (L2.CX P w) 4 f fd ["rows"] (spCheck X) := by
  have G3 : FnOk P w K mg base CX0 3 g3 gd3 ["row", "count"] spIsRow := ok_isRow D3.F T D1 D2
  obtain ⟨tm, hmost⟩ := T.most
  refine F.okX scCheck (fun vs H Q E h => ?_) (fun cdv A outer s H vs Q E hr h => ?_)
  · obtain ⟨R, _, _, rfl, _⟩ := h
    rfl
  · obtain ⟨R, refs, rows, rfl, hR, hE, h60, hcr, kg, kb⟩ := h
    refine ⟨_, pss_cons (ps_if (pt_not (pt_chain op_le op_le pe_int (pe_callB call_len_seq (by rfl) T.len_ PySem.boot_len (pa_cons (pv 0) pa_nil)) (pe_glob (v := .int 48) rfl hmost ⟨_, rfl⟩)))
        (pss_one (ps_raise rfl (takes_of rfl rfl rfl rfl) (pmk_own PySem.F.excBase_ValueError TX.x TX.g TX.k (raises_own TX.b TX.t) (by rfl)))) pss_nil)
      (pss_one (ps_if (pt_not (pt_val (pe_callB (cr_all rfl) (by rfl) T.all_ boot_all' (pa_cons (pe_lc (own := [("row", 1)]) (g := gName 1) (tt := tYes) (by rfl) scCheck.nd (pi_tup (pv 0)) (blkOk_by (N := ["rows", "row"]) (sc := defScope sCheck) (by decide +kernel))
          (fun _ _ _ _ _ => pg_name (i := 1) scCheck.nd rfl (Or.inl rfl)) (fun _ _ _ _ _ => pts_nil)
          (fun _ _ _ _ _ => pe_call G3 hr rfl D3.M D3.F.kp D3.B .nil pass0 (pa_cons (pv 1) (pa_cons (pe_callB (call_lenK (K := K) rfl) (by rfl) T.len_ PySem.boot_len (pa_cons (pv 0) pa_nil)) pa_nil)))) pa_nil))))
        (pss_one (ps_raise rfl (takes_of rfl rfl rfl rfl) (pmk_own PySem.F.excBase_ValueError TX.x TX.g TX.k (raises_own TX.b TX.t) (by rfl)))) pss_nil)), ?_⟩
    have hlr : refs.length = rows.length := hE.1
    refine ⟨_, rfl, ?_⟩
    refine ⟨R, _, rfl, .inr (SqT.of hR), _, _, rfl, rfl, _, rfl, ?_⟩
    rw [hlr]
    by_cases h1 : 1 ≤ rows.length
    rotate_left
    · refine ifD_no (by omega) ?_
      have e1 : tabOk rows = false := by
        unfold tabOk
        rw [decide_eq_false h1]
        simp
      exact ⟨false, rfl, iteT (kb e1 H fun _ _ e => e)⟩
    refine ifD_yes (by omega) ⟨_, _, rfl, rfl, _, rfl, ?_⟩
    by_cases h48 : rows.length ≤ 48
    rotate_left
    · have e1 : tabOk rows = false := by
        unfold tabOk
        rw [decide_eq_false h48]
        simp
      rw [decide_eq_false (by omega)]
      exact iteT (kb e1 H fun _ _ e => e)
    rw [decide_eq_true (by omega)]
    refine iteF ?_
    refine ⟨_, rfl, R, rfl, ⟨_, SqT.of hR⟩, fun Dd hD => ?_⟩
    refine lc_same (xs := refs) (walk_t (K := K) (a := R) (xs := refs)) (by rw [hlr]; exact Nat.le_trans h60 (by decide)) hD (fun H' s' => SqT.of (s' _ _ hR)) ((rows.map (rowOk rows.length)).map V.bl) (by simp [hlr]) (fun i x y H' Φ Ψ hx hy sm k => ?_) fun H1 s1 hd1 => ?_
    · rw [List.getElem?_map, Option.map_eq_some_iff] at hy
      obtain ⟨y, hy, rfl⟩ := hy
      rw [List.getElem?_map, Option.map_eq_some_iff] at hy
      obtain ⟨r, hq, rfl⟩ := hy
      obtain ⟨c, rfl, hc⟩ := hE.2 i x _ hx hq
      refine ⟨rfl, ?_⟩
      dsimp only [tYes]
      rw [if_pos rfl]
      refine ⟨_, rfl, _, rfl, R, _, rfl, .inr (SqT.of (sm _ _ hR)), c, r, rows.length, congrArg (fun z : Nat => [V.ref c, V.int (z : Int)]) hlr, sm _ _ hc, fun z hz => (hcr r (List.mem_of_getElem? hq) z hz).kin fun c xs e => sm _ _ e, k⟩
    refine ⟨Dd, _, rfl, SqL.of hd1, ?_⟩
    have hall : (rows.map (rowOk rows.length)).all id = rows.all (rowOk rows.length) := by
      rw [List.all_map]
      rfl
    rw [hall]
    have etab : tabOk rows = rows.all (rowOk rows.length) := by
      unfold tabOk
      rw [decide_eq_true h1, decide_eq_true h48]
      rfl
    rw [etab] at kg kb
    cases hrow : rows.all (rowOk rows.length) with
    | false => exact ⟨false, rfl, iteT (kb hrow H1 s1)⟩
    | true => exact ⟨true, rfl, iteF (kg hrow H1 s1)⟩
theorem scInit : FnScope ["self", "rows", "row"] ["self", "rows"] (defScope sInit) := ⟨rfl, rfl, rfl, by decide +kernel, rfl, by decide +kernel, by decide +kernel⟩
theorem ok_init {f g1 g2 g3 g4 : Addr} {fd gd1 gd2 gd3 gd4 : FuncData} (F : Fun K "__init__" "RowSet.__init__" sInit f fd) (T : Txt K mg) (TC : TxtC K mg C Fo) (TX : TxtX K mg X PE_) (D1 : Df K mg "is_integer" sIsInt g1 gd1 ["value"]) (D2 : Df K mg "is_below" sBelow g2 gd2 ["value", "count"]) (D3 : Df K mg "_is_row" sIsRow g3 gd3 ["row", "count"]) (D4 : Df K mg "_check_rows" sCheck g4 gd4 ["rows"]) :
    FnOk P w K mg base (L2.CX P w) 5 f fd ["self", "rows"] (spInit C X) := by
  have G4 : FnOk P w K mg base (L2.CX P w) 4 g4 gd4 ["rows"] (spCheck X) := ok_check D4.F T TX D1 D2 D3
  refine F.okX scInit (fun vs H Q E h => ?_) (fun cdv A outer s H vs Q E hr h => ?_)
  · obtain ⟨p, dx, L, _, _, rfl, _⟩ := h
    rfl
  · obtain ⟨p, dx, L, refs, rows, rfl, hp, hL, hE, h60, hcr, kg, kb⟩ := h
    refine ⟨_, pss_one (ps_if (pt_val (pe_callB call_isi (by rfl) T.isi boot_isi (pa_cons (pv 1) (pa_cons (pe_glob (v := .ref Fo) rfl TC.mgF rfl) pa_nil)))) pss_never
        (pss_cons (ps_fld (pv 0) (pe_callTy call_tuple_of (by rfl) T.tup_ boot_tuple' (pa_cons (pe_lc (own := [("row", 2)]) (g := gName 2) (tt := tYes) (by rfl) scInit.nd (pi_sq (pv 1)) (blkOk_by (N := ["self", "rows", "row"]) (sc := defScope sInit) (by decide +kernel))
          (fun _ _ _ _ _ => pg_name (i := 2) scInit.nd rfl (Or.inl rfl)) (fun _ _ _ _ _ => pts_nil)
          (fun _ _ _ _ _ => pe_callTy (call_tupleK (K := K) rfl) (by rfl) T.tup_ boot_tuple' (pa_cons (pv 2) pa_nil))) pa_nil)) rfl)
        (pss_one (ps_expr (pe_call (E := E) G4 hr rfl D4.M D4.F.kp D4.B .nil (passes_call (takes_of rfl rfl rfl rfl) (fun _ _ _ _ z => z)) (pa_cons (pe_fld (pv 0) rfl) pa_nil)))))), ?_⟩
    have hlr : refs.length = rows.length := hE.1
    have hsz : refs.length ≤ sizeLine := by rw [hlr]; exact Nat.le_trans h60 (by decide)
    obtain ⟨k, hk, hty⟩ : ∃ k, Sk K k H L refs ∧ ∃ t, TyX K H (.ref L) (.type t) ∧ PySem.W.kitOne K (.type t) (.ref Fo) = some false := by
      rcases hL with hL | hL
      · exact ⟨.l, SqL.of hL, "list", .base (.lst hL), TC.kl⟩
      · exact ⟨.t, SqT.of hL, "tuple", .base (.tup hL), TC.kt⟩
    obtain ⟨t, ht, hkit⟩ := hty
    refine ⟨_, rfl, _, _, _, _, _, rfl, .own Fo, ht, hkit, _, rfl, iteF ?_⟩
    refine ⟨k, _, rfl, L, rfl, ⟨_, hk⟩, fun Dd hD => ?_⟩
    refine lc_acc (xs := refs) (walk_k (k := k)) hsz hD (fun H' s' => hk.up s') (fun i acc H' => Ea H' isC acc (rows.take i)) (fun i acc H' e => by rw [e.1, List.length_take]; omega) (by rw [List.take_zero]; exact Ea.nil) (fun i x H' acc Φ Ψ hi hx sm hd he kf => ?_) fun H1 acc s1 hd he => ?_
    · obtain ⟨c, r, rfl, hl, hc⟩ := hE.at_ hx
      refine ⟨rfl, ?_⟩
      dsimp only [tYes]
      rw [if_pos rfl]
      rcases hc with hc | hc
      · refine ⟨_, rfl, c, _, rfl, .inr ⟨SqT.of (sm _ _ hc), kf _ H' (fun _ _ e => e) hd fun H5 h5 b1 b2 => ?_⟩⟩
        rw [take_succ' hl]
        exact Ea.push (he.imp fun c' r' q => TupOf.but q hd b1) (TupOf.but (f := id) (sm _ _ hc) hd b1)
      · refine ⟨_, rfl, c, _, rfl, .inl ⟨SqL.of (sm _ _ hc), fun q hq => ?_⟩⟩
        have sq := new_ (o := .tup r) hq
        refine kf _ _ sq (sq _ _ hd) fun H5 h5 b1 b2 => ?_
        rw [take_succ' hl]
        exact Ea.push (he.imp fun c' r' z => TupOf.but (f := id) (sq _ _ z) (sq _ _ hd) b1) (TupOf.but (f := id) upd_same (sq _ _ hd) b1)
    · rw [hlr, List.take_length] at he
      refine ⟨Dd, _, rfl, .inl ⟨SqL.of hd, fun l hl => ?_⟩⟩
      have sl := new_ (o := .tup acc) hl
      have hp1 := sl _ _ (s1 _ _ hp)
      refine ⟨_, rfl, p, C, dx, _, rfl, hp1, TC.cl, TC.nR, (by show 0 < 1000; decide), ?_⟩
      have hl1 : ∀ o : HO, (upd (upd H1 l (.tup acc)) p o) l = some (.tup acc) := fun o => by
        rw [upd_ne (ne_of hp1 upd_same (by intro z; cases z)).symm]
        exact upd_same
      have kp : ∀ c o (u : HO), H c = some o → c ≠ p → (upd (upd H1 l (.tup acc)) p u) c = some o := fun c o u e hc => by
        rw [upd_ne hc]
        exact sl _ _ (s1 _ _ e)
      refine ⟨_, rfl, p, C, dx, _, _, rfl, upd_same, TC.cl, TC.nR, rsf_rows l, l, acc, rows, rfl, hl1 _, ?_, h60, fun r hr x hx => (hcr r hr x hx).kin fun c xs e => kp _ _ _ e (ne_of e hp (by intro z; cases z)), fun ok H2 s2 => ?_, fun bad H2 s2 => ?_⟩
      · exact (he.same sl).imp fun c r q => TupOf.ins q hp1
      · refine kg ok H2 ⟨dx, l, acc, s2 _ _ upd_same, s2 _ _ (hl1 _), ?_⟩ fun c o e hc => s2 _ _ (kp _ _ _ e hc)
        exact ((he.same sl).imp fun c r q => TupOf.ins (f := id) q hp1).same s2
      · exact kb bad H2 fun c o e hc => s2 _ _ (kp _ _ _ e hc)
end
end PA

set_option maxHeartbeats 2000000
namespace PA
open PySem L2 RZ
open C8 (pss_cut tCut)
/-! ### data of ints -/
theorem ints_lay : ∀ ns : List Int, PyData.canLayAll0 (ns.map PyData.int) = true
  | [] => by simp [PyData.canLayAll0]
  | z :: zs => by simp [PyData.canLayAll0, PyData.canLay0, ints_lay zs]
theorem ints_depth : ∀ ns : List Int, PyData.depthAll (ns.map PyData.int) ≤ 2
  | [] => by simp [PyData.depthAll]
  | z :: zs => by
    have h1 := ints_depth zs
    simp only [List.map_cons, PyData.depthAll, PyData.depth]
    omega
theorem ints_shaped (ns : List Int) : SeqAt.shaped (.list (ns.map PyData.int)) = true := by
  have h1 := ints_depth ns
  have h2 : PyData.depth (.list (ns.map PyData.int)) ≤ 64 := by
    simp only [PyData.depth]
    omega
  show (PyData.canLay0 (.list (ns.map PyData.int)) && decide (PyData.depth (.list (ns.map PyData.int)) ≤ 64)) = true
  rw [Bool.and_eq_true]
  exact ⟨by simp only [PyData.canLay0]; exact ints_lay ns, decide_eq_true h2⟩
theorem dp_ints {K : PySem.W.Frag} {H : Hp} : ∀ ns : List Int, DpAll K H (ns.map V.int) (ns.map PyData.int)
  | [] => .nil
  | z :: zs => .cons (.int z) (dp_ints zs)
theorem ints_nil (ns : List Int) : PyData.eqv (.list (ns.map PyData.int)) (.list []) = ns.isEmpty := by
  cases ns with
  | nil => simp [PyData.eqv, PyData.eqvAll]
  | cons z zs => simp [PyData.eqv, PyData.eqvAll]
/-! ### the stream of draws: the list at a, the numbers left at l, n draws made -/
def StreamAt (H : Hp) (a l : Addr) (n : Nat) : Prop := a ≠ l ∧ ∃ (ns : List Int) (x z : Int), H a = some (.lst [.ref l, .int x, .int (n : Int), .int z]) ∧ H l = some (.lst (ns.map V.int)) ∧ ns.length ≤ 63 ∧ 0 ≤ x ∧ 0 ≤ z ∧ z < 2147483647
/-- all but the stream is kept -/
def Keep (a l : Addr) (H H' : Hp) : Prop := ∀ c o, c ≠ a → c ≠ l → H c = some o → H' c = some o
theorem Keep.refl (a l : Addr) (H : Hp) : Keep a l H H := fun _ _ _ _ h => h
theorem Keep.trans {a l : Addr} {H H1 H2 : Hp} (h : Keep a l H H1) (h' : Keep a l H1 H2) : Keep a l H H2 := fun c o x y e => h' c o x y (h c o x y e)
theorem Keep.of {a l : Addr} {H H' : Hp} (h : Same H H') : Keep a l H H' := fun c o _ _ e => h c o e
theorem StreamAt.same {H H' : Hp} {a l : Addr} {n : Nat} (h : StreamAt H a l n) (s : Same H H') : StreamAt H' a l n := by
  obtain ⟨ne, ns, x, z, h1, h2, h3⟩ := h
  exact ⟨ne, ns, x, z, s _ _ h1, s _ _ h2, h3⟩
def spDraw : Sp := fun vs H Q _ => ∃ (a l : Addr) (n : Nat) (many : Int), vs = [.ref a, .int many] ∧ StreamAt H a l n ∧ n ≤ 100000 ∧ 0 < many ∧ Sm 9000 many ∧
  ∀ (r : Int) (H' : Hp), 0 ≤ r → r < many → StreamAt H' a l (n + 1) → Keep a l H H' → Q (.int r) H'
section
variable {P : Program} {w : World} {K : PySem.W.Frag} {mg : Str → Option Value} {base : Heap} {C : Addr}
theorem scDraw : FnScope ["_law_stream", "_law_many", "_law_digit", "_law_mixed"] ["_law_stream", "_law_many"] (defScope sDraw) := ⟨rfl, rfl, rfl, by decide +kernel, rfl, by decide +kernel, by decide +kernel⟩
theorem ok_draw {f : Addr} {fd : FuncData} (F : Fun K "_law_draw" "_law_draw" sDraw f fd) (T : Txt K mg) : FnOk P w K mg base CX0 1 f fd ["_law_stream", "_law_many"] spDraw := by
  refine F.ok scDraw (fun vs H Q E h => ?_) (fun cdv A outer s H vs Q E hr h => ?_)
  · obtain ⟨a, l, n, many, rfl, _⟩ := h
    rfl
  · obtain ⟨a, l, n, many, rfl, ⟨ne, ns, x, z, h1, h2, hl, hx, hz0, hz1⟩, hn, hm, hms, k⟩ := h
    have hW : ∀ j : Int, CDivW j many := fun j => ⟨hm, Nat.lt_of_lt_of_le (PySem.Flt.log2_lt_of (by decide) hms) (Nat.le_refl _)⟩
    refine ⟨_, pss_cut (ps_asg (pe_op op_add (pe_ix ix_list (pv 0) pe_int (fun _ _ => rfl)) pe_int) (pg_sub (pv 0) pe_int set_list))
      (pss_cut (ps_if (PW.pt (pw_and (pt_cmpR op_eq (pe_ix ix_list (pv 0) pe_int (fun _ _ => rfl)) pe_int (nomark _)) (pw_and1 (pt_cmpR (op_neD hr.units) (pe_ix ix_list (pv 0) pe_int (fun _ _ => rfl)) (pe_lst pa_nil) (nomark _)))))
        (pss_cons (ps_asg (pe_bm PySem.F.plainAttrs_list PySem.F.slot_list_pop PySem.F.type_list_pop mt_popAt (pe_ix ix_list (pv 0) pe_int (fun _ _ => rfl)) (pa_cons pe_int pa_nil)) (pg_sub (pv 0) pe_int set_list))
          (pss_one (ps_if (pt_cmpR op_lt (pe_ix ix_list (pv 0) pe_int (fun _ _ => rfl)) (pe_op op_pow pe_int pe_int) (nomark _))
            (pss_cons (ps_asg (pe_op op_mod (pe_callTy call_int1 (by rfl) T.int_ boot_int' (pa_cons (pe_op op_add (pe_op op_add (pe_op op_mul (pe_ix ix_list (pv 0) pe_int (fun _ _ => rfl)) pe_int) (pe_ix ix_list (pv 0) pe_int (fun _ _ => rfl))) pe_int) pa_nil)) pe_int) (pg_sub (pv 0) pe_int set_list))
              (pss_one (ps_asg pe_int (pg_sub (pv 0) pe_int set_list)))) pss_nil))) pss_nil)
      (pss_cons (ps_if (pt_cmpR op_gt (pe_ix ix_list (pv 0) pe_int (fun _ _ => rfl)) pe_int (nomark _))
        (pss_cons (ps_set (i := 2) scDraw.nd rfl (Or.inl rfl) (pe_op op_mod (pe_callTy call_int1 (by rfl) T.int_ boot_int' (pa_cons (pe_ix ix_list (pv 0) pe_int (fun _ _ => rfl)) pa_nil)) (pv 1)))
          (pss_cons (ps_asg (pe_op op_fdivW (pe_ix ix_list (pv 0) pe_int (fun _ _ => rfl)) (pv 1)) (pg_sub (pv 0) pe_int set_list))
            (pss_one (ps_ret (pv 2))))) pss_nil)
      (pss_cons (ps_set (i := 3) scDraw.nd rfl (Or.inl rfl) (pe_op op_mod (pe_op op_pow (pe_op op_add (pe_op op_add (pe_ix ix_list (pv 0) pe_int (fun _ _ => rfl)) (pe_op op_mul pe_int (pe_ix ix_list (pv 0) pe_int (fun _ _ => rfl)))) pe_int) pe_int) pe_int))
      (pss_one (ps_ret (pe_op op_mod (pe_op op_mod (pe_op op_pow (pe_op op_add (pe_op op_add (pe_op op_mul (pv 3) pe_int) (pe_op op_mul (pe_op op_mul pe_int (pe_ix ix_list (pv 0) pe_int (fun _ _ => rfl))) (pe_ix ix_list (pv 0) pe_int (fun _ _ => rfl)))) pe_int) pe_int) pe_int) (pv 1))))))), ?_⟩
    refine ⟨fun σ' H' => σ' = [some (V.ref a), some (V.int many), none, none] ∧ H' = upd H a (.lst [.ref l, .int x, .int ((n : Int) + 1), .int z]), ?_, ?_⟩
    · exact ⟨_, rfl, a, _, 2, _, rfl, rfl, SqL.of h1, rfl, _, _, rfl, rfl, _, rfl, a, _, 2, 2, rfl, rfl, h1, rfl, rfl, rfl⟩
    rintro _ _ ⟨rfl, rfl⟩
    refine ⟨fun σ' H' => σ' = [some (V.ref a), some (V.int many), none, none] ∧ ∃ (ns' : List Int) (x' z' : Int), H' a = some (.lst [.ref l, .int x', .int ((n : Int) + 1), .int z']) ∧ H' l = some (.lst (ns'.map V.int)) ∧ ns'.length ≤ 63 ∧ 0 ≤ x' ∧ 0 ≤ z' ∧ z' < 2147483647 ∧ Keep a l H H', ?_, ?_⟩
    · have kp1 : Keep a l H (upd H a (.lst [.ref l, .int x, .int ((n : Int) + 1), .int z])) := fun c o ca _ e => by rw [upd_ne ca]; exact e
      have hl1 : (upd H a (.lst [.ref l, .int x, .int ((n : Int) + 1), .int z])) l = some (.lst (ns.map V.int)) := by rw [upd_ne ne.symm]; exact h2
      refine ⟨_, rfl, a, _, 1, _, rfl, rfl, SqL.of upd_same, rfl, rfl, _, rfl, ifD_2 (fun hx0 => ?_) (fun _ => iteF ?_)⟩
      · refine ⟨_, rfl, a, _, 0, _, rfl, rfl, SqL.of upd_same, rfl, Nat.zero_le _, fun p hp => ?_⟩
        have npa : a ≠ p := fun e => by rw [← e, upd_same] at hp; cases hp
        have npl : l ≠ p := ne_of_none hl1 hp
        have kp2 : Keep a l H (upd (upd H a (.lst [.ref l, .int x, .int ((n : Int) + 1), .int z])) p (.lst [])) := fun c o ca cl e => by
          rw [upd_ne (ne_of_none (kp1 c o ca cl e) hp)]; exact kp1 c o ca cl e
        refine ⟨.list (ns.map PyData.int), .list [], .lst (SqL.of (by rw [upd_ne npl]; exact hl1)) (dp_ints ns), .lst (SqL.of upd_same) .nil, ints_shaped ns, ints_shaped [], _, rfl, ?_⟩
        rw [ints_nil]
        cases ns with
        | nil => exact iteF ⟨rfl, [], x, z, by rw [upd_ne npa, upd_same], by rw [upd_ne npl]; exact hl1, Nat.zero_le _, hx, hz0, hz1, kp2⟩
        | cons y ys =>
          refine iteT ?_
          have ga : (upd (upd H a (.lst [.ref l, .int x, .int ((n : Int) + 1), .int z])) p (.lst [])) a = some (.lst [.ref l, .int x, .int ((n : Int) + 1), .int z]) := by rw [upd_ne npa, upd_same]
          have gl : (upd (upd H a (.lst [.ref l, .int x, .int ((n : Int) + 1), .int z])) p (.lst [])) l = some (.lst ((y :: ys).map V.int)) := by rw [upd_ne npl]; exact hl1
          generalize (upd (upd H a (.lst [.ref l, .int x, .int ((n : Int) + 1), .int z])) p (.lst [])) = Hb at ga gl kp2
          refine ⟨_, rfl, a, _, 0, _, rfl, rfl, SqL.of ga, rfl, .inl ⟨rfl, _, SqL.of gl⟩, l, _, 0, 0, .int y, rfl, rfl, gl, by decide, by decide, (ixN_seq (Evl.ixN_nat (j := 0) (by simp))).1, rfl, ?_⟩
          have ga2 : (upd Hb l (.lst (((y :: ys).map V.int).eraseIdx 0))) a = some (.lst [.ref l, .int x, .int ((n : Int) + 1), .int z]) := by rw [upd_ne ne]; exact ga
          refine ⟨_, rfl, a, _, 1, 1, rfl, rfl, ga2, rfl, ?_⟩
          have kp3 : ∀ o, Keep a l H (upd (upd Hb l (.lst (((y :: ys).map V.int).eraseIdx 0))) a o) := fun o c u ca cl e => by rw [upd_ne ca, upd_ne cl]; exact kp2 c u ca cl e
          have gl3 : ∀ o, (upd (upd Hb l (.lst (((y :: ys).map V.int).eraseIdx 0))) a o) l = some (.lst (ys.map V.int)) := fun o => by rw [upd_ne ne.symm, upd_same]; rfl
          have hys : ys.length ≤ 63 := Nat.le_trans (Nat.le_succ _) hl
          refine ⟨_, rfl, a, _, 1, _, rfl, rfl, SqL.of upd_same, rfl, 10, 18, rfl, rfl, (by show CPow 10 18; unfold CPow; decide), _, _, rfl, rfl, _, rfl, ifD_2 (fun hy => ?_) (fun hy => ?_)⟩
          · refine ⟨_, rfl, a, _, 3, _, rfl, rfl, SqL.of upd_same, rfl, _, _, rfl, rfl, .inr (by decide), _, rfl, a, _, 1, _, rfl, rfl, SqL.of upd_same, rfl, _, _, rfl, rfl, _, _, rfl, rfl, .inl ⟨_, rfl, _, _, rfl, rfl, (by show (0 : Int) < 2147483647; decide), _, rfl, a, _, 3, 3, rfl, rfl, upd_same, rfl, ?_⟩⟩
            refine ⟨_, rfl, a, _, 1, 1, rfl, rfl, upd_same, rfl, ?_⟩
            rw [upd_upd, upd_upd]
            exact ⟨rfl, ys, 0, (z * 31 + y + 7) % 2147483647, upd_same, gl3 _, hys, by decide, Int.emod_nonneg _ (by decide), Int.emod_lt_of_pos _ (by decide), kp3 _⟩
          · exact ⟨rfl, ys, y, z, upd_same, gl3 _, hys, by
              have h18 : (0 : Int) ≤ 10 ^ (18 : Int).toNat := by decide
              omega, hz0, hz1, kp3 _⟩
      · exact ⟨rfl, ns, x, z, upd_same, hl1, hl, hx, hz0, hz1, kp1⟩
    rintro _ H1 ⟨rfl, ns', x', z', g1, g2, gl, gx, gz0, gz1, kp⟩
    refine ⟨_, rfl, a, _, 1, _, rfl, rfl, SqL.of g1, rfl, _, _, rfl, rfl, _, rfl, ifD_2 (fun hp => ?_) (fun _ => ?_)⟩
    · refine ⟨_, rfl, a, _, 1, _, rfl, rfl, SqL.of g1, rfl, .inl ⟨_, rfl, _, rfl, _, _, rfl, rfl, hm, ?_⟩⟩
      refine ⟨_, rfl, a, _, 1, _, rfl, rfl, SqL.of g1, rfl, _, rfl, _, _, rfl, rfl, hW _, _, rfl, a, _, 1, 1, rfl, rfl, g1, rfl, _, rfl, ?_⟩
      refine k (x' % many) _ (Int.emod_nonneg _ (by omega)) (Int.emod_lt_of_pos _ hm) ⟨ne, ns', x' / many, z', upd_same, by rw [upd_ne ne.symm]; exact g2, gl, Int.ediv_nonneg gx (by omega), gz0, gz1⟩ fun c o ca cl e => by
        rw [upd_ne ca]; exact kp c o ca cl e
    · have hn' : (n : Int) ≤ 100000 := by omega
      have hn0 : (0 : Int) ≤ n := by omega
      refine ⟨_, rfl, a, _, 3, _, rfl, rfl, SqL.of g1, rfl, _, rfl, a, _, 2, _, rfl, rfl, SqL.of g1, rfl, _, _, rfl, rfl, .inl (by decide), _, _, rfl, rfl, _, _, rfl, rfl, _, _, rfl, rfl, ?_, _, _, rfl, rfl, (by show (0 : Int) < 2147483629; decide), ?_⟩
      · show CPow _ 5
        refine ⟨by decide, by decide, ?_⟩
        have e64 : (2 : Nat) ^ 64 = 18446744073709551616 := by decide
        rw [e64]
        omega
      · generalize hmx : ((z' + 104729 * ((n : Int) + 1) + 17) ^ (5 : Int).toNat) % 2147483629 = mx
        have m0 : 0 ≤ mx := by rw [← hmx]; exact Int.emod_nonneg _ (by decide)
        have m1 : mx < 2147483629 := by rw [← hmx]; exact Int.emod_lt_of_pos _ (by decide)
        refine ⟨_, rfl, _, _, rfl, rfl, .inr (by decide), _, rfl, a, _, 2, _, rfl, rfl, SqL.of g1, rfl, _, _, rfl, rfl, .inl (by decide), _, rfl, a, _, 2, _, rfl, rfl, SqL.of g1, rfl, _, _, rfl, rfl, .inr ?_, _, _, rfl, rfl, _, _, rfl, rfl, _, _, rfl, rfl, ?_, _, _, rfl, rfl, (by show (0 : Int) < 1000000007; decide), _, rfl, _, _, rfl, rfl, hm, ?_⟩
        · have e64 : (2 : Int) ^ 64 = 18446744073709551616 := by decide
          rw [e64]
          omega
        · show CPow _ 3
          refine ⟨by decide, by decide, ?_⟩
          have e64 : (2 : Nat) ^ 64 = 18446744073709551616 := by decide
          rw [e64]
          have q0 : 0 ≤ 40503 * ((n : Int) + 1) * ((n : Int) + 1) := Int.mul_nonneg (by omega) (by omega)
          have q1 : 40503 * ((n : Int) + 1) * ((n : Int) + 1) ≤ 40503 * 100001 * 100001 := Int.mul_le_mul (by omega) (by omega) (by omega) (by decide)
          omega
        · exact k _ _ (Int.emod_nonneg _ (by omega)) (Int.emod_lt_of_pos _ hm) ⟨ne, ns', x', z', g1, g2, gl, gx, gz0, gz1⟩ kp
end
theorem sm9000 {x : Int} {n : Nat} (h : Sm n x) (hn : n ≤ 9000) : Sm 9000 x := h.mono hn
theorem sm_small {x : Int} (h : x.natAbs < 8) : Sm 9000 x := sm9000 (n := 3) h (by decide)
def spStart (K : PySem.W.Frag) : Sp := fun vs H Q _ => ∃ (p : Addr) (ns : List Int), vs = [.ref p] ∧ SqL K H p (ns.map V.int) ∧ ns.length ≤ 63 ∧ ∀ (a l : Addr) (H' : Hp), StreamAt H' a l 0 → H a = none → H l = none → Same H H' → Q (.ref a) H'
section
variable {P : Program} {w : World} {K : PySem.W.Frag} {mg : Str → Option Value} {base : Heap} {C : Addr}
theorem scStart : FnScope ["_law_script"] ["_law_script"] (defScope sStart) := ⟨rfl, rfl, rfl, by decide +kernel, rfl, by decide +kernel, by decide +kernel⟩
theorem ok_start {f : Addr} {fd : FuncData} (F : Fun K "_law_start" "_law_start" sStart f fd) (T : Txt K mg) : FnOk P w K mg base CX0 1 f fd ["_law_script"] (spStart K) := by
  refine F.ok scStart (fun vs H Q E h => ?_) (fun cdv A outer s H vs Q E hr h => ?_)
  · obtain ⟨p, ns, rfl, _⟩ := h
    rfl
  · obtain ⟨p, ns, rfl, hS, hl, k⟩ := h
    refine ⟨_, pss_one (ps_ret (pe_lst (pa_cons (pe_callTy call_list_of (by rfl) T.list_ boot_list' (pa_cons (pv 0) pa_nil)) (pa_cons pe_int (pa_cons pe_int (pa_cons pe_int pa_nil)))))), ?_⟩
    refine ⟨_, rfl, p, _, rfl, .inl hS, fun l hl' => ⟨by show 4 ≤ sizeLine; decide, fun a ha => ?_⟩⟩
    have nal : a ≠ l := fun e => by rw [e, upd_same] at ha; cases ha
    have ha0 : H a = Option.none := by rw [upd_ne nal] at ha; exact ha
    exact k a l _ ⟨nal, ns, 0, 0, upd_same, by rw [upd_ne nal.symm, upd_same], hl, by decide, by decide, by decide⟩ ha0 hl' ((new_ hl').trans (new_ ha))
end
theorem StreamAt.ne {H : Hp} {a l p : Addr} {n : Nat} (S : StreamAt H a l n) (h : H p = none) : p ≠ a ∧ p ≠ l := by
  obtain ⟨ne, ns, x, z, h1, h2, _⟩ := S
  exact ⟨(ne_of_none h1 h).symm, (ne_of_none h2 h).symm⟩
theorem sm48 {z : Int} (h1 : 1 ≤ z) (h2 : z ≤ 48) : Sm 9000 z := by
  refine sm9000 (n := 6) ?_ (by decide)
  have e : (2 : Nat) ^ 6 = 64 := by decide
  show z.natAbs < 2 ^ 6
  rw [e]
  omega
theorem StreamAt.at_ {H : Hp} {a l : Addr} {n m : Nat} (S : StreamAt H a l n) (e : n = m) : StreamAt H a l m := e ▸ S
theorem StreamAt.lst {H : Hp} {a l p : Addr} {n : Nat} {xs ys : List V} (S : StreamAt H a l n) (hp : H p = some (.lst xs)) (pa : p ≠ a) (pl : p ≠ l) : StreamAt (upd H p (.lst ys)) a l n := by
  obtain ⟨ne, ns, x, z, h1, h2, h3⟩ := S
  exact ⟨ne, ns, x, z, by rw [upd_ne pa.symm]; exact h1, by rw [upd_ne pl.symm]; exact h2, h3⟩

def spPick : Sp := fun vs H Q _ => ∃ (a l L : Addr) (n : Nat) (xs : List V), vs = [.ref a, .ref L] ∧ StreamAt H a l n ∧ n ≤ 20000 ∧ H L = some (.lst xs) ∧ L ≠ a ∧ L ≠ l ∧ 1 ≤ xs.length ∧ xs.length ≤ 48 ∧
  ∀ (i : Nat) (x : V) (H' : Hp), xs[i]? = some x → StreamAt H' a l (n + 1) → Keep a l H H' → Q x H'
section
variable {P : Program} {w : World} {K : PySem.W.Frag} {mg : Str → Option Value} {base : Heap} {C : Addr}
theorem scPick : FnScope ["_law_stream", "_law_some"] ["_law_stream", "_law_some"] (defScope sPick) := ⟨rfl, rfl, rfl, by decide +kernel, rfl, by decide +kernel, by decide +kernel⟩
theorem ok_pick {f g : Addr} {fd gd : FuncData} (F : Fun K "_law_pick" "_law_pick" sPick f fd) (T : Txt K mg) (D : Df K mg "_law_draw" sDraw g gd ["_law_stream", "_law_many"]) : FnOk P w K mg base CX0 2 f fd ["_law_stream", "_law_some"] spPick := by
  have G : FnOk P w K mg base CX0 1 g gd ["_law_stream", "_law_many"] spDraw := ok_draw D.F T
  refine F.ok scPick (fun vs H Q E h => ?_) (fun cdv A outer s H vs Q E hr h => ?_)
  · obtain ⟨a, l, L, n, _, rfl, _⟩ := h
    rfl
  · obtain ⟨a, l, L, n, xs, rfl, S0, hn, hL, La, Ll, h1, h48, kk⟩ := h
    refine ⟨_, pss_one (ps_ret (pe_ix ix_list (pv 1) (pe_call G hr rfl D.M D.F.kp D.B .nil pass0 (pa_cons (pv 0) (pa_cons (pe_callB call_len_seq (by rfl) T.len_ PySem.boot_len (pa_cons (pv 1) pa_nil)) pa_nil))) (fun _ _ => rfl))), ?_⟩
    refine ⟨_, rfl, _, rfl, _, rfl, L, xs, rfl, .inl (SqL.of hL), a, l, n, _, rfl, S0, by omega, by omega, sm48 (by omega) (by omega), fun r H1 r0 r1 S1 kp1 => ?_⟩
    have hi : r.toNat < xs.length := by omega
    have hx : xs[r.toNat]? = some xs[r.toNat] := List.getElem?_eq_getElem hi
    have ha := atI_nat hx
    rw [Int.toNat_of_nonneg r0] at ha
    exact ⟨L, xs, r, _, rfl, rfl, SqL.of (kp1 _ _ La Ll hL), ha, kk _ _ H1 hx S1 kp1⟩
end
end PA

set_option maxHeartbeats 4000000
namespace PA
open PySem L2 RZ
/-! ### a comprehension over zip -/
section
variable {K : PySem.W.Frag} {a b : Addr} {xs ys : List V} {g : TG} {tt : TT} {te : TE} {vs : List Nat} {σ : L2.St} {H1 : Hp} {D : Addr} {Qd : Hp → Prop}
theorem lc_zipL (hl : xs.length = ys.length) (Pv : Nat → Hp → Prop) (h0 : Pv 0 (upd H1 D (.lst []))) (hq : ∀ i H, Pv i H → SqL K H a xs ∧ SqL K H b ys)
    (hs : ∀ (i : Nat) (x y : V) (T : Addr) (H : Hp), xs[i]? = some x → ys[i]? = some y → Pv i H → H T = none → g (.ref T) (wipe σ vs) (upd H T (.tup [x, y])) fun σ2 H2 => wipe σ2 vs = wipe σ vs ∧ tt σ2 H2 fun c H3 =>
      if c = true then te σ2 H3 fun z H4 => ∃ acc, H4 D = some (.lst acc) ∧ acc.length < sizeLine ∧ Pv (i + 1) (upd H4 D (.lst (acc ++ [z]))) else Pv (i + 1) H3) (hd : ∀ H, Pv xs.length H → Qd H) :
    ∃ W : Nat → Nat → Hp → Prop, (∃ m, W 0 m (upd H1 D (.lst []))) ∧ ∀ i m H, W i m H →
      ((Itz K a b).stop i H ∧ Qd H) ∨ ((Itz K a b).go i H ∧ ∃ Nx : Hp → Prop, (∀ H', Nx H' → ∃ m', m' < m ∧ W (i + 1) m' H') ∧ ∀ x H', (Itz K a b).yld i H x H' → g x (wipe σ vs) H' fun σ2 H2 => wipe σ2 vs = wipe σ vs ∧ tt σ2 H2 fun c H3 =>
        if c = true then te σ2 H3 fun z H4 => ∃ acc, H4 D = some (.lst acc) ∧ acc.length < sizeLine ∧ Nx (upd H4 D (.lst (acc ++ [z]))) else Nx H3) := by
  refine ⟨fun i m H => m = xs.length - i ∧ i ≤ xs.length ∧ Pv i H, ⟨xs.length, rfl, Nat.zero_le _, h0⟩, ?_⟩
  rintro i m H ⟨rfl, hi, p⟩
  obtain ⟨qx, qy⟩ := hq i H p
  by_cases hlt : i < xs.length
  · have hx : xs[i]? = some xs[i] := List.getElem?_eq_getElem hlt
    have hlt2 : i < ys.length := by omega
    have hy : ys[i]? = some ys[i] := List.getElem?_eq_getElem hlt2
    refine .inr ⟨⟨xs, ys, _, _, qx, qy, hx, hy⟩, Pv (i + 1), fun H' p' => ⟨xs.length - (i + 1), by omega, rfl, hlt, p'⟩, fun v H' y => ?_⟩
    obtain ⟨T, x', y', rfl, hT, rfl, f1, f2⟩ := y
    exact hs i x' y' T H (f1 xs qx) (f2 ys qy) p hT
  · have e : i = xs.length := by omega
    subst e
    exact .inl ⟨⟨xs, ys, qx, qy, Or.inl (Nat.le_refl _)⟩, hd H p⟩
theorem lc_zipT (hl : xs.length = ys.length) (Pv : Nat → Hp → Prop) (h0 : Pv 0 (upd H1 D (.lst []))) (hq : ∀ i H, Pv i H → SqT K H a xs ∧ SqT K H b ys)
    (hs : ∀ (i : Nat) (x y : V) (T : Addr) (H : Hp), xs[i]? = some x → ys[i]? = some y → Pv i H → H T = none → g (.ref T) (wipe σ vs) (upd H T (.tup [x, y])) fun σ2 H2 => wipe σ2 vs = wipe σ vs ∧ tt σ2 H2 fun c H3 =>
      if c = true then te σ2 H3 fun z H4 => ∃ acc, H4 D = some (.lst acc) ∧ acc.length < sizeLine ∧ Pv (i + 1) (upd H4 D (.lst (acc ++ [z]))) else Pv (i + 1) H3) (hd : ∀ H, Pv xs.length H → Qd H) :
    ∃ W : Nat → Nat → Hp → Prop, (∃ m, W 0 m (upd H1 D (.lst []))) ∧ ∀ i m H, W i m H →
      ((ItzT K a b).stop i H ∧ Qd H) ∨ ((ItzT K a b).go i H ∧ ∃ Nx : Hp → Prop, (∀ H', Nx H' → ∃ m', m' < m ∧ W (i + 1) m' H') ∧ ∀ x H', (ItzT K a b).yld i H x H' → g x (wipe σ vs) H' fun σ2 H2 => wipe σ2 vs = wipe σ vs ∧ tt σ2 H2 fun c H3 =>
        if c = true then te σ2 H3 fun z H4 => ∃ acc, H4 D = some (.lst acc) ∧ acc.length < sizeLine ∧ Nx (upd H4 D (.lst (acc ++ [z]))) else Nx H3) := by
  refine ⟨fun i m H => m = xs.length - i ∧ i ≤ xs.length ∧ Pv i H, ⟨xs.length, rfl, Nat.zero_le _, h0⟩, ?_⟩
  rintro i m H ⟨rfl, hi, p⟩
  obtain ⟨qx, qy⟩ := hq i H p
  by_cases hlt : i < xs.length
  · have hx : xs[i]? = some xs[i] := List.getElem?_eq_getElem hlt
    have hlt2 : i < ys.length := by omega
    have hy : ys[i]? = some ys[i] := List.getElem?_eq_getElem hlt2
    refine .inr ⟨⟨xs, ys, _, _, qx, qy, hx, hy⟩, Pv (i + 1), fun H' p' => ⟨xs.length - (i + 1), by omega, rfl, hlt, p'⟩, fun v H' y => ?_⟩
    obtain ⟨T, x', y', rfl, hT, rfl, f1, f2⟩ := y
    exact hs i x' y' T H (f1 xs qx) (f2 ys qy) p hT
  · have e : i = xs.length := by omega
    subst e
    exact .inl ⟨⟨xs, ys, qx, qy, Or.inl (Nat.le_refl _)⟩, hd H p⟩
end
/-! ### two values that are the same, to the depth n: ints, bools, lists and tuples of such -/
inductive Two (K : PySem.W.Frag) (H : Hp) : Nat → V → V → Prop where
  | bl (n : Nat) (b : Bool) : Two K H n (.bl b) (.bl b)
  | int (n : Nat) (i : Int) : Two K H n (.int i) (.int i)
  | non (n : Nat) : Two K H n .non .non
  | str (n : Nat) (x : Str) : Two K H n (.str x) (.str x)
  | lst {n : Nat} {a b : Addr} {xs ys : List V} (ha : H a = some (.lst xs)) (hb : H b = some (.lst ys)) (hl : xs.length = ys.length) (hsz : xs.length ≤ sizeLine) (hi : ∀ (i : Nat) (x y : V), xs[i]? = some x → ys[i]? = some y → Two K H n x y) : Two K H (n + 1) (.ref a) (.ref b)
  | tup {n : Nat} {a b : Addr} {xs ys : List V} (ha : SqT K H a xs) (hb : SqT K H b ys) (hl : xs.length = ys.length) (hsz : xs.length ≤ sizeLine) (hi : ∀ (i : Nat) (x y : V), xs[i]? = some x → ys[i]? = some y → Two K H n x y) : Two K H (n + 1) (.ref a) (.ref b)
theorem Two.same {K : PySem.W.Frag} {H H' : Hp} {n : Nat} {x y : V} (t : Two K H n x y) (s : Same H H') : Two K H' n x y := by
  induction t with
  | bl n b => exact .bl n b
  | int n i => exact .int n i
  | non n => exact .non n
  | str n x => exact .str n x
  | lst ha hb hl hz _ ih => exact .lst (s _ _ ha) (s _ _ hb) hl hz ih
  | tup ha hb hl hz _ ih => exact .tup (SqT.up ha s) (SqT.up hb s) hl hz ih
theorem tyT {K : PySem.W.Frag} {H : Hp} {a : Addr} {xs : List V} (h : SqT K H a xs) : TyX K H (.ref a) (.type "tuple") := by
  rcases h with (h | ⟨ob, h⟩) | ⟨o, its, n, h1, h2, _⟩
  · exact .base (.tup h)
  · exact .fTuple h
  · exact .kTuple h1 h2
def spSame (K : PySem.W.Frag) (n : Nat) : Sp := fun vs H Q _ => ∃ x y, vs = [x, y] ∧ Two K H n x y ∧ ∀ H', Same H H' → Q (.bl true) H'
section
variable {P : Program} {w : World} {K : PySem.W.Frag} {mg : Str → Option Value} {base : Heap} {C : Addr}
theorem scSame : FnScope ["_law_found", "_law_due", "_law_one", "_law_other"] ["_law_found", "_law_due"] (defScope sSame) := ⟨rfl, rfl, rfl, by decide +kernel, rfl, by decide +kernel, by decide +kernel⟩
theorem kit2 {t : String} {b1 b2 r : Bool} (h1 : kitB t "list" = some b1) (h2 : kitB t "tuple" = some b2) (hr : (b1 || b2) = r) : PySem.W.kitAny K (.type t) [.type "list", .type "tuple"] = some r := by
  subst hr
  refine kitAny_cons (b := b1) (kit_ty h1) (fun e => ?_) (fun e => by rw [e]; rfl)
  subst e
  refine kitAny_cons (b := b2) (kit_ty h2) (fun e => ?_) (fun e => by rw [e]; rfl)
  subst e
  exact kitAny_nil
theorem kit3 {t : String} (h1 : kitB t "int" = some false) (h2 : kitB t "list" = some false) (h3 : kitB t "tuple" = some false) : PySem.W.kitAny K (.type t) [.type "int", .type "list", .type "tuple"] = some false := by
  refine kitAny_cons (b := false) (kit_ty h1) (fun _ => ?_) (fun e => by cases e)
  refine kitAny_cons (b := false) (kit_ty h2) (fun _ => ?_) (fun e => by cases e)
  refine kitAny_cons (b := false) (kit_ty h3) (fun _ => ?_) (fun e => by cases e)
  exact kitAny_nil
theorem ok_same {f : Addr} {fd : FuncData} (D : Df K mg "_law_same" sSame f fd ["_law_found", "_law_due"]) (T : Txt K mg) : ∀ n : Nat, FnOk P w K mg base CX0 (n + 1) f fd ["_law_found", "_law_due"] (spSame K n) := by
  have hlen : ∀ n, ∀ vs H Q E, spSame K n vs H Q E → vs.length = (["_law_found", "_law_due"] : List Str).length := fun n vs H Q E h => by
    obtain ⟨x, y, rfl, _⟩ := h
    rfl
  intro n
  induction n with
  | zero =>
    refine D.F.ok scSame (hlen 0) (fun cdv A outer s H vs Q E hr h => ?_)
    obtain ⟨x, y, rfl, t, k⟩ := h
    cases t with
    | int _ i =>
      refine ⟨_, pss_cons (ps_if (pt_val (pe_callB call_isiT (by rfl) T.isi boot_isi (pa_cons (pv 1) (pa_cons (pe_tup (pa_cons (pe_bltn (v := .ty "list") (by rfl) T.list_ boot_list' rfl) (pa_cons (pe_bltn (v := .ty "tuple") (by rfl) T.tup_ boot_tuple' rfl) pa_nil))) pa_nil)))) pss_never pss_nil)
      (pss_cons (ps_if (pt_val (pe_callB call_isi (by rfl) T.isi boot_isi (pa_cons (pv 1) (pa_cons (pe_bltn (v := .ty "int") (by rfl) T.int_ boot_int' rfl) pa_nil))))
        (pss_one (ps_ret (pe_and (pe_callB call_isi (by rfl) T.isi boot_isi (pa_cons (pv 0) (pa_cons (pe_bltn (v := .ty "int") (by rfl) T.int_ boot_int' rfl) pa_nil)))
          (pe_and (pe_cmpR op_eq (pe_callB call_isi (by rfl) T.isi boot_isi (pa_cons (pv 0) (pa_cons (pe_bltn (v := .ty "bool") (by rfl) T.bool_ boot_bool' rfl) pa_nil))) (pe_callB call_isi (by rfl) T.isi boot_isi (pa_cons (pv 1) (pa_cons (pe_bltn (v := .ty "bool") (by rfl) T.bool_ boot_bool' rfl) pa_nil))) (nomark _))
            (pe_one (pe_cmpR op_eq (pv 0) (pv 1) (nomark _))))))) pss_nil) pss_never), ?_⟩
      refine ⟨_, rfl, by show 2 ≤ sizeLine; decide, fun tp htp => ⟨_, tp, _, _, [.type "list", .type "tuple"], _, rfl, upd_same, .cons (.ty _) (.cons (.ty _) .nil), .base (.int i), kit2 (b1 := false) (b2 := false) (by decide +kernel) (by decide +kernel) rfl, _, rfl, iteF ?_⟩⟩
      refine ⟨_, rfl, _, _, _, _, _, rfl, .ty _, .base (.int i), kit_ty (b := "int") (r := true) (by decide +kernel), _, rfl, iteT ?_⟩
      refine ⟨_, rfl, _, _, _, _, _, rfl, .ty _, .base (.int i), kit_ty (b := "int") (r := true) (by decide +kernel), _, rfl, iteT ?_⟩
      refine ⟨_, rfl, _, _, _, _, _, rfl, .ty _, .base (.int i), kit_ty (b := "bool") (r := false) (by decide +kernel), _, rfl, _, _, _, _, _, rfl, .ty _, .base (.int i), kit_ty (b := "bool") (r := false) (by decide +kernel), rfl, _, rfl, ifD_yes rfl ?_⟩
      refine ⟨_, rfl, _, rfl, rfl, ?_⟩
      show Q (V.bl (decide (V.int i = V.int i))) _
      rw [decide_eq_true rfl]
      exact k _ (new_ htp)
    | bl _ b =>
      refine ⟨_, pss_cons (ps_if (pt_val (pe_callB call_isiT (by rfl) T.isi boot_isi (pa_cons (pv 1) (pa_cons (pe_tup (pa_cons (pe_bltn (v := .ty "list") (by rfl) T.list_ boot_list' rfl) (pa_cons (pe_bltn (v := .ty "tuple") (by rfl) T.tup_ boot_tuple' rfl) pa_nil))) pa_nil)))) pss_never pss_nil)
      (pss_cons (ps_if (pt_val (pe_callB call_isi (by rfl) T.isi boot_isi (pa_cons (pv 1) (pa_cons (pe_bltn (v := .ty "int") (by rfl) T.int_ boot_int' rfl) pa_nil))))
        (pss_one (ps_ret (pe_and (pe_callB call_isi (by rfl) T.isi boot_isi (pa_cons (pv 0) (pa_cons (pe_bltn (v := .ty "int") (by rfl) T.int_ boot_int' rfl) pa_nil)))
          (pe_and (pe_cmpR op_eq (pe_callB call_isi (by rfl) T.isi boot_isi (pa_cons (pv 0) (pa_cons (pe_bltn (v := .ty "bool") (by rfl) T.bool_ boot_bool' rfl) pa_nil))) (pe_callB call_isi (by rfl) T.isi boot_isi (pa_cons (pv 1) (pa_cons (pe_bltn (v := .ty "bool") (by rfl) T.bool_ boot_bool' rfl) pa_nil))) (nomark _))
            (pe_one (pe_cmpR op_eq (pv 0) (pv 1) (nomark _))))))) pss_nil) pss_never), ?_⟩
      refine ⟨_, rfl, by show 2 ≤ sizeLine; decide, fun tp htp => ⟨_, tp, _, _, [.type "list", .type "tuple"], _, rfl, upd_same, .cons (.ty _) (.cons (.ty _) .nil), .base (.bl b), kit2 (b1 := false) (b2 := false) (by decide +kernel) (by decide +kernel) rfl, _, rfl, iteF ?_⟩⟩
      refine ⟨_, rfl, _, _, _, _, _, rfl, .ty _, .base (.bl b), kit_ty (b := "int") (r := true) (by decide +kernel), _, rfl, iteT ?_⟩
      refine ⟨_, rfl, _, _, _, _, _, rfl, .ty _, .base (.bl b), kit_ty (b := "int") (r := true) (by decide +kernel), _, rfl, iteT ?_⟩
      refine ⟨_, rfl, _, _, _, _, _, rfl, .ty _, .base (.bl b), kit_ty (b := "bool") (r := true) (by decide +kernel), _, rfl, _, _, _, _, _, rfl, .ty _, .base (.bl b), kit_ty (b := "bool") (r := true) (by decide +kernel), rfl, _, rfl, ifD_yes rfl ?_⟩
      refine ⟨_, rfl, _, rfl, rfl, ?_⟩
      show Q (V.bl (decide (V.bl b = V.bl b))) _
      rw [decide_eq_true rfl]
      exact k _ (new_ htp)
    | non _ =>
      refine ⟨_, pss_cons (ps_if (pt_val (pe_callB call_isiT (by rfl) T.isi boot_isi (pa_cons (pv 1) (pa_cons (pe_tup (pa_cons (pe_bltn (v := .ty "list") (by rfl) T.list_ boot_list' rfl) (pa_cons (pe_bltn (v := .ty "tuple") (by rfl) T.tup_ boot_tuple' rfl) pa_nil))) pa_nil)))) pss_never pss_nil)
      (pss_cons (ps_if (pt_val (pe_callB call_isi (by rfl) T.isi boot_isi (pa_cons (pv 1) (pa_cons (pe_bltn (v := .ty "int") (by rfl) T.int_ boot_int' rfl) pa_nil)))) pss_never pss_nil)
      (pss_one (ps_ret (pe_and (pe_cmpR op_eq (pv 0) (pv 1) (nomark _)) (pe_one (pe_cmpR op_is_bl (pe_callB call_isiT (by rfl) T.isi boot_isi (pa_cons (pv 0) (pa_cons (pe_tup (pa_cons (pe_bltn (v := .ty "int") (by rfl) T.int_ boot_int' rfl) (pa_cons (pe_bltn (v := .ty "list") (by rfl) T.list_ boot_list' rfl) (pa_cons (pe_bltn (v := .ty "tuple") (by rfl) T.tup_ boot_tuple' rfl) pa_nil)))) pa_nil))) pe_bl (nomark _))))))), ?_⟩
      refine ⟨_, rfl, by show 2 ≤ sizeLine; decide, fun tp htp => ⟨_, tp, _, _, [.type "list", .type "tuple"], _, rfl, upd_same, .cons (.ty _) (.cons (.ty _) .nil), .base .non, kit2 (b1 := false) (b2 := false) (by decide +kernel) (by decide +kernel) rfl, _, rfl, iteF ?_⟩⟩
      refine ⟨_, rfl, _, _, _, _, _, rfl, .ty _, .base .non, kit_ty (b := "int") (r := false) (by decide +kernel), _, rfl, iteF ?_⟩
      refine ⟨_, rfl, _, rfl, rfl, _, rfl, ifD_yes rfl ?_⟩
      refine ⟨_, rfl, by show 3 ≤ sizeLine; decide, fun tq htq => ⟨_, tq, _, _, [.type "int", .type "list", .type "tuple"], _, rfl, upd_same, .cons (.ty _) (.cons (.ty _) (.cons (.ty _) .nil)), .base .non, kit3 (by decide +kernel) (by decide +kernel) (by decide +kernel), _, _, rfl, rfl, ?_⟩⟩
      exact k _ ((new_ htp).trans (new_ htq))
    | str _ x =>
      refine ⟨_, pss_cons (ps_if (pt_val (pe_callB call_isiT (by rfl) T.isi boot_isi (pa_cons (pv 1) (pa_cons (pe_tup (pa_cons (pe_bltn (v := .ty "list") (by rfl) T.list_ boot_list' rfl) (pa_cons (pe_bltn (v := .ty "tuple") (by rfl) T.tup_ boot_tuple' rfl) pa_nil))) pa_nil)))) pss_never pss_nil)
      (pss_cons (ps_if (pt_val (pe_callB call_isi (by rfl) T.isi boot_isi (pa_cons (pv 1) (pa_cons (pe_bltn (v := .ty "int") (by rfl) T.int_ boot_int' rfl) pa_nil)))) pss_never pss_nil)
      (pss_one (ps_ret (pe_and (pe_cmpR op_eq (pv 0) (pv 1) (nomark _)) (pe_one (pe_cmpR op_is_bl (pe_callB call_isiT (by rfl) T.isi boot_isi (pa_cons (pv 0) (pa_cons (pe_tup (pa_cons (pe_bltn (v := .ty "int") (by rfl) T.int_ boot_int' rfl) (pa_cons (pe_bltn (v := .ty "list") (by rfl) T.list_ boot_list' rfl) (pa_cons (pe_bltn (v := .ty "tuple") (by rfl) T.tup_ boot_tuple' rfl) pa_nil)))) pa_nil))) pe_bl (nomark _))))))), ?_⟩
      refine ⟨_, rfl, by show 2 ≤ sizeLine; decide, fun tp htp => ⟨_, tp, _, _, [.type "list", .type "tuple"], _, rfl, upd_same, .cons (.ty _) (.cons (.ty _) .nil), .base (.str x), kit2 (b1 := false) (b2 := false) (by decide +kernel) (by decide +kernel) rfl, _, rfl, iteF ?_⟩⟩
      refine ⟨_, rfl, _, _, _, _, _, rfl, .ty _, .base (.str x), kit_ty (b := "int") (r := false) (by decide +kernel), _, rfl, iteF ?_⟩
      refine ⟨_, rfl, _, rfl, rfl, _, rfl, ifD_yes rfl ?_⟩
      refine ⟨_, rfl, by show 3 ≤ sizeLine; decide, fun tq htq => ⟨_, tq, _, _, [.type "int", .type "list", .type "tuple"], _, rfl, upd_same, .cons (.ty _) (.cons (.ty _) (.cons (.ty _) .nil)), .base (.str x), kit3 (by decide +kernel) (by decide +kernel) (by decide +kernel), _, _, rfl, rfl, ?_⟩⟩
      exact k _ ((new_ htp).trans (new_ htq))
  | succ n ih =>
    refine D.F.ok scSame (hlen (n + 1)) (fun cdv A outer s H vs Q E hr h => ?_)
    obtain ⟨x, y, rfl, t, k⟩ := h
    cases t with
    | int _ i =>
      refine ⟨_, pss_cons (ps_if (pt_val (pe_callB call_isiT (by rfl) T.isi boot_isi (pa_cons (pv 1) (pa_cons (pe_tup (pa_cons (pe_bltn (v := .ty "list") (by rfl) T.list_ boot_list' rfl) (pa_cons (pe_bltn (v := .ty "tuple") (by rfl) T.tup_ boot_tuple' rfl) pa_nil))) pa_nil)))) pss_never pss_nil)
      (pss_cons (ps_if (pt_val (pe_callB call_isi (by rfl) T.isi boot_isi (pa_cons (pv 1) (pa_cons (pe_bltn (v := .ty "int") (by rfl) T.int_ boot_int' rfl) pa_nil))))
        (pss_one (ps_ret (pe_and (pe_callB call_isi (by rfl) T.isi boot_isi (pa_cons (pv 0) (pa_cons (pe_bltn (v := .ty "int") (by rfl) T.int_ boot_int' rfl) pa_nil)))
          (pe_and (pe_cmpR op_eq (pe_callB call_isi (by rfl) T.isi boot_isi (pa_cons (pv 0) (pa_cons (pe_bltn (v := .ty "bool") (by rfl) T.bool_ boot_bool' rfl) pa_nil))) (pe_callB call_isi (by rfl) T.isi boot_isi (pa_cons (pv 1) (pa_cons (pe_bltn (v := .ty "bool") (by rfl) T.bool_ boot_bool' rfl) pa_nil))) (nomark _))
            (pe_one (pe_cmpR op_eq (pv 0) (pv 1) (nomark _))))))) pss_nil) pss_never), ?_⟩
      refine ⟨_, rfl, by show 2 ≤ sizeLine; decide, fun tp htp => ⟨_, tp, _, _, [.type "list", .type "tuple"], _, rfl, upd_same, .cons (.ty _) (.cons (.ty _) .nil), .base (.int i), kit2 (b1 := false) (b2 := false) (by decide +kernel) (by decide +kernel) rfl, _, rfl, iteF ?_⟩⟩
      refine ⟨_, rfl, _, _, _, _, _, rfl, .ty _, .base (.int i), kit_ty (b := "int") (r := true) (by decide +kernel), _, rfl, iteT ?_⟩
      refine ⟨_, rfl, _, _, _, _, _, rfl, .ty _, .base (.int i), kit_ty (b := "int") (r := true) (by decide +kernel), _, rfl, iteT ?_⟩
      refine ⟨_, rfl, _, _, _, _, _, rfl, .ty _, .base (.int i), kit_ty (b := "bool") (r := false) (by decide +kernel), _, rfl, _, _, _, _, _, rfl, .ty _, .base (.int i), kit_ty (b := "bool") (r := false) (by decide +kernel), rfl, _, rfl, ifD_yes rfl ?_⟩
      refine ⟨_, rfl, _, rfl, rfl, ?_⟩
      show Q (V.bl (decide (V.int i = V.int i))) _
      rw [decide_eq_true rfl]
      exact k _ (new_ htp)
    | bl _ b =>
      refine ⟨_, pss_cons (ps_if (pt_val (pe_callB call_isiT (by rfl) T.isi boot_isi (pa_cons (pv 1) (pa_cons (pe_tup (pa_cons (pe_bltn (v := .ty "list") (by rfl) T.list_ boot_list' rfl) (pa_cons (pe_bltn (v := .ty "tuple") (by rfl) T.tup_ boot_tuple' rfl) pa_nil))) pa_nil)))) pss_never pss_nil)
      (pss_cons (ps_if (pt_val (pe_callB call_isi (by rfl) T.isi boot_isi (pa_cons (pv 1) (pa_cons (pe_bltn (v := .ty "int") (by rfl) T.int_ boot_int' rfl) pa_nil))))
        (pss_one (ps_ret (pe_and (pe_callB call_isi (by rfl) T.isi boot_isi (pa_cons (pv 0) (pa_cons (pe_bltn (v := .ty "int") (by rfl) T.int_ boot_int' rfl) pa_nil)))
          (pe_and (pe_cmpR op_eq (pe_callB call_isi (by rfl) T.isi boot_isi (pa_cons (pv 0) (pa_cons (pe_bltn (v := .ty "bool") (by rfl) T.bool_ boot_bool' rfl) pa_nil))) (pe_callB call_isi (by rfl) T.isi boot_isi (pa_cons (pv 1) (pa_cons (pe_bltn (v := .ty "bool") (by rfl) T.bool_ boot_bool' rfl) pa_nil))) (nomark _))
            (pe_one (pe_cmpR op_eq (pv 0) (pv 1) (nomark _))))))) pss_nil) pss_never), ?_⟩
      refine ⟨_, rfl, by show 2 ≤ sizeLine; decide, fun tp htp => ⟨_, tp, _, _, [.type "list", .type "tuple"], _, rfl, upd_same, .cons (.ty _) (.cons (.ty _) .nil), .base (.bl b), kit2 (b1 := false) (b2 := false) (by decide +kernel) (by decide +kernel) rfl, _, rfl, iteF ?_⟩⟩
      refine ⟨_, rfl, _, _, _, _, _, rfl, .ty _, .base (.bl b), kit_ty (b := "int") (r := true) (by decide +kernel), _, rfl, iteT ?_⟩
      refine ⟨_, rfl, _, _, _, _, _, rfl, .ty _, .base (.bl b), kit_ty (b := "int") (r := true) (by decide +kernel), _, rfl, iteT ?_⟩
      refine ⟨_, rfl, _, _, _, _, _, rfl, .ty _, .base (.bl b), kit_ty (b := "bool") (r := true) (by decide +kernel), _, rfl, _, _, _, _, _, rfl, .ty _, .base (.bl b), kit_ty (b := "bool") (r := true) (by decide +kernel), rfl, _, rfl, ifD_yes rfl ?_⟩
      refine ⟨_, rfl, _, rfl, rfl, ?_⟩
      show Q (V.bl (decide (V.bl b = V.bl b))) _
      rw [decide_eq_true rfl]
      exact k _ (new_ htp)
    | non _ =>
      refine ⟨_, pss_cons (ps_if (pt_val (pe_callB call_isiT (by rfl) T.isi boot_isi (pa_cons (pv 1) (pa_cons (pe_tup (pa_cons (pe_bltn (v := .ty "list") (by rfl) T.list_ boot_list' rfl) (pa_cons (pe_bltn (v := .ty "tuple") (by rfl) T.tup_ boot_tuple' rfl) pa_nil))) pa_nil)))) pss_never pss_nil)
      (pss_cons (ps_if (pt_val (pe_callB call_isi (by rfl) T.isi boot_isi (pa_cons (pv 1) (pa_cons (pe_bltn (v := .ty "int") (by rfl) T.int_ boot_int' rfl) pa_nil)))) pss_never pss_nil)
      (pss_one (ps_ret (pe_and (pe_cmpR op_eq (pv 0) (pv 1) (nomark _)) (pe_one (pe_cmpR op_is_bl (pe_callB call_isiT (by rfl) T.isi boot_isi (pa_cons (pv 0) (pa_cons (pe_tup (pa_cons (pe_bltn (v := .ty "int") (by rfl) T.int_ boot_int' rfl) (pa_cons (pe_bltn (v := .ty "list") (by rfl) T.list_ boot_list' rfl) (pa_cons (pe_bltn (v := .ty "tuple") (by rfl) T.tup_ boot_tuple' rfl) pa_nil)))) pa_nil))) pe_bl (nomark _))))))), ?_⟩
      refine ⟨_, rfl, by show 2 ≤ sizeLine; decide, fun tp htp => ⟨_, tp, _, _, [.type "list", .type "tuple"], _, rfl, upd_same, .cons (.ty _) (.cons (.ty _) .nil), .base .non, kit2 (b1 := false) (b2 := false) (by decide +kernel) (by decide +kernel) rfl, _, rfl, iteF ?_⟩⟩
      refine ⟨_, rfl, _, _, _, _, _, rfl, .ty _, .base .non, kit_ty (b := "int") (r := false) (by decide +kernel), _, rfl, iteF ?_⟩
      refine ⟨_, rfl, _, rfl, rfl, _, rfl, ifD_yes rfl ?_⟩
      refine ⟨_, rfl, by show 3 ≤ sizeLine; decide, fun tq htq => ⟨_, tq, _, _, [.type "int", .type "list", .type "tuple"], _, rfl, upd_same, .cons (.ty _) (.cons (.ty _) (.cons (.ty _) .nil)), .base .non, kit3 (by decide +kernel) (by decide +kernel) (by decide +kernel), _, _, rfl, rfl, ?_⟩⟩
      exact k _ ((new_ htp).trans (new_ htq))
    | str _ x =>
      refine ⟨_, pss_cons (ps_if (pt_val (pe_callB call_isiT (by rfl) T.isi boot_isi (pa_cons (pv 1) (pa_cons (pe_tup (pa_cons (pe_bltn (v := .ty "list") (by rfl) T.list_ boot_list' rfl) (pa_cons (pe_bltn (v := .ty "tuple") (by rfl) T.tup_ boot_tuple' rfl) pa_nil))) pa_nil)))) pss_never pss_nil)
      (pss_cons (ps_if (pt_val (pe_callB call_isi (by rfl) T.isi boot_isi (pa_cons (pv 1) (pa_cons (pe_bltn (v := .ty "int") (by rfl) T.int_ boot_int' rfl) pa_nil)))) pss_never pss_nil)
      (pss_one (ps_ret (pe_and (pe_cmpR op_eq (pv 0) (pv 1) (nomark _)) (pe_one (pe_cmpR op_is_bl (pe_callB call_isiT (by rfl) T.isi boot_isi (pa_cons (pv 0) (pa_cons (pe_tup (pa_cons (pe_bltn (v := .ty "int") (by rfl) T.int_ boot_int' rfl) (pa_cons (pe_bltn (v := .ty "list") (by rfl) T.list_ boot_list' rfl) (pa_cons (pe_bltn (v := .ty "tuple") (by rfl) T.tup_ boot_tuple' rfl) pa_nil)))) pa_nil))) pe_bl (nomark _))))))), ?_⟩
      refine ⟨_, rfl, by show 2 ≤ sizeLine; decide, fun tp htp => ⟨_, tp, _, _, [.type "list", .type "tuple"], _, rfl, upd_same, .cons (.ty _) (.cons (.ty _) .nil), .base (.str x), kit2 (b1 := false) (b2 := false) (by decide +kernel) (by decide +kernel) rfl, _, rfl, iteF ?_⟩⟩
      refine ⟨_, rfl, _, _, _, _, _, rfl, .ty _, .base (.str x), kit_ty (b := "int") (r := false) (by decide +kernel), _, rfl, iteF ?_⟩
      refine ⟨_, rfl, _, rfl, rfl, _, rfl, ifD_yes rfl ?_⟩
      refine ⟨_, rfl, by show 3 ≤ sizeLine; decide, fun tq htq => ⟨_, tq, _, _, [.type "int", .type "list", .type "tuple"], _, rfl, upd_same, .cons (.ty _) (.cons (.ty _) (.cons (.ty _) .nil)), .base (.str x), kit3 (by decide +kernel) (by decide +kernel) (by decide +kernel), _, _, rfl, rfl, ?_⟩⟩
      exact k _ ((new_ htp).trans (new_ htq))
    | @lst _ a b xs ys ha hb hl hsz hi =>
      refine ⟨_, pss_cons (ps_if (pt_val (pe_callB call_isiT (by rfl) T.isi boot_isi (pa_cons (pv 1) (pa_cons (pe_tup (pa_cons (pe_bltn (v := .ty "list") (by rfl) T.list_ boot_list' rfl) (pa_cons (pe_bltn (v := .ty "tuple") (by rfl) T.tup_ boot_tuple' rfl) pa_nil))) pa_nil))))
      (pss_cons (ps_if (PW.pt (pw_or (pt_cmpR op_ne (pe_callB call_isi (by rfl) T.isi boot_isi (pa_cons (pv 0) (pa_cons (pe_bltn (v := .ty "list") (by rfl) T.list_ boot_list' rfl) pa_nil))) (pe_callB call_isi (by rfl) T.isi boot_isi (pa_cons (pv 1) (pa_cons (pe_bltn (v := .ty "list") (by rfl) T.list_ boot_list' rfl) pa_nil))) (nomark _)) (pw_or1 (pt_cmpR op_ne (pe_callB call_isi (by rfl) T.isi boot_isi (pa_cons (pv 0) (pa_cons (pe_bltn (v := .ty "tuple") (by rfl) T.tup_ boot_tuple' rfl) pa_nil))) (pe_callB call_isi (by rfl) T.isi boot_isi (pa_cons (pv 1) (pa_cons (pe_bltn (v := .ty "tuple") (by rfl) T.tup_ boot_tuple' rfl) pa_nil))) (nomark _))))) pss_never pss_nil)
        (pss_one (ps_ret (pe_and (pe_cmpR op_eq (pe_callB call_len_seq (by rfl) T.len_ PySem.boot_len (pa_cons (pv 0) pa_nil)) (pe_callB call_len_seq (by rfl) T.len_ PySem.boot_len (pa_cons (pv 1) pa_nil)) (nomark _))
          (pe_one (pe_callB (cr_all rfl) (by rfl) T.all_ boot_all' (pa_cons (pe_lc (own := [("_law_one", 2), ("_law_other", 3)]) (g := gTup K 2 (gCons (gName 2) (gCons (gName 3) gNil))) (tt := tYes) (by rfl) scSame.nd (pi_zipA (by rfl) T.zip_ (pa_cons (pv 0) (pa_cons (pv 1) pa_nil))) (blkOk_by (N := ["_law_found", "_law_due", "_law_one", "_law_other"]) (sc := defScope sSame) (by decide +kernel))
            (fun _ _ _ _ _ => by exact pg_tup rfl (pgs_cons (pg_name (i := 2) scSame.nd rfl (Or.inl rfl)) (pgs_cons (pg_name (i := 3) scSame.nd rfl (Or.inl rfl)) pgs_nil))) (fun _ _ _ _ _ => pts_nil)
            (fun _ _ _ _ _ => pe_call ih hr rfl D.M D.F.kp D.B .nil pass0 (pa_cons (pv 2) (pa_cons (pv 3) pa_nil)))) pa_nil))))))) pss_nil) pss_never, ?_⟩
      refine ⟨_, rfl, by show 2 ≤ sizeLine; decide, fun tp htp => ?_⟩
      have s1 : Same H (upd H tp (.tup [.ty "list", .ty "tuple"])) := new_ htp
      have hA := s1 _ _ ha
      have hB := s1 _ _ hb
      refine ⟨_, tp, _, _, [.type "list", .type "tuple"], _, rfl, upd_same, .cons (.ty _) (.cons (.ty _) .nil), .base (.lst hB), kit2 (b1 := true) (b2 := false) (by decide +kernel) (by decide +kernel) rfl, _, rfl, iteT ?_⟩
      refine ⟨_, rfl, _, _, _, _, _, rfl, .ty _, .base (.lst hA), kit_ty (b := "list") (r := true) (by decide +kernel), _, rfl, _, _, _, _, _, rfl, .ty _, .base (.lst hB), kit_ty (b := "list") (r := true) (by decide +kernel), rfl, _, rfl, iteNS rfl ?_⟩
      refine ⟨_, rfl, _, _, _, _, _, rfl, .ty _, .base (.lst hA), kit_ty (b := "tuple") (r := false) (by decide +kernel), _, rfl, _, _, _, _, _, rfl, .ty _, .base (.lst hB), kit_ty (b := "tuple") (r := false) (by decide +kernel), rfl, _, rfl, iteNS rfl ?_⟩
      refine ⟨_, rfl, _, _, rfl, .inl (SqL.of hA), _, rfl, _, _, rfl, .inl (SqL.of hB), rfl, _, rfl, ifD_yes (by rw [hl]) ?_⟩
      refine ⟨_, rfl, _, rfl, _, _, xs, ys, rfl, .inl ⟨SqL.of hA, SqL.of hB, fun Dd hD => ?_⟩⟩
      refine lc_zipL hl (fun i H' => Same (upd H tp (.tup [.ty "list", .ty "tuple"])) H' ∧ H' Dd = some (.lst ((List.replicate i true).map V.bl))) ⟨new_ hD, upd_same⟩ (fun i H' q => ⟨SqL.of (q.1 _ _ hA), SqL.of (q.1 _ _ hB)⟩) ?_ ?_
      · rintro i x y tt H' hx hy ⟨sm, hd⟩ ht
        refine ⟨tt, _, rfl, SqT.of upd_same, rfl, _, _, rfl, _, _, rfl, rfl, rfl, ?_⟩
        dsimp only [tYes]
        rw [if_pos rfl]
        have s2 : Same H' (upd H' tt (.tup [x, y])) := new_ ht
        refine ⟨_, rfl, _, rfl, x, y, rfl, ((hi i x y hx hy).same s1).same (sm.trans s2), fun H2 s3 => ⟨_, s3 _ _ (s2 _ _ hd), ?_, ?_, ?_⟩⟩
        · rw [List.length_map, List.length_replicate]
          exact Nat.lt_of_lt_of_le (List.getElem?_eq_some_iff.mp hx).1 hsz
        · intro c o e
          rw [upd_ne (ne_of_none e hD)]
          exact s3 _ _ (s2 _ _ (sm _ _ e))
        · rw [upd_same, List.replicate_succ', List.map_append]
          rfl
      · rintro H' ⟨sm, hd⟩
        refine ⟨Dd, _, rfl, SqL.of hd, ?_⟩
        have ea : (List.replicate xs.length true).all id = true := by
          rw [List.all_eq_true]
          intro x hx
          rw [(List.mem_replicate.mp hx).2]
          rfl
        rw [ea]
        exact k _ (s1.trans sm)
    | @tup _ a b xs ys ha hb hl hsz hi =>
      refine ⟨_, pss_cons (ps_if (pt_val (pe_callB call_isiT (by rfl) T.isi boot_isi (pa_cons (pv 1) (pa_cons (pe_tup (pa_cons (pe_bltn (v := .ty "list") (by rfl) T.list_ boot_list' rfl) (pa_cons (pe_bltn (v := .ty "tuple") (by rfl) T.tup_ boot_tuple' rfl) pa_nil))) pa_nil))))
      (pss_cons (ps_if (PW.pt (pw_or (pt_cmpR op_ne (pe_callB call_isi (by rfl) T.isi boot_isi (pa_cons (pv 0) (pa_cons (pe_bltn (v := .ty "list") (by rfl) T.list_ boot_list' rfl) pa_nil))) (pe_callB call_isi (by rfl) T.isi boot_isi (pa_cons (pv 1) (pa_cons (pe_bltn (v := .ty "list") (by rfl) T.list_ boot_list' rfl) pa_nil))) (nomark _)) (pw_or1 (pt_cmpR op_ne (pe_callB call_isi (by rfl) T.isi boot_isi (pa_cons (pv 0) (pa_cons (pe_bltn (v := .ty "tuple") (by rfl) T.tup_ boot_tuple' rfl) pa_nil))) (pe_callB call_isi (by rfl) T.isi boot_isi (pa_cons (pv 1) (pa_cons (pe_bltn (v := .ty "tuple") (by rfl) T.tup_ boot_tuple' rfl) pa_nil))) (nomark _))))) pss_never pss_nil)
        (pss_one (ps_ret (pe_and (pe_cmpR op_eq (pe_callB call_len_seq (by rfl) T.len_ PySem.boot_len (pa_cons (pv 0) pa_nil)) (pe_callB call_len_seq (by rfl) T.len_ PySem.boot_len (pa_cons (pv 1) pa_nil)) (nomark _))
          (pe_one (pe_callB (cr_all rfl) (by rfl) T.all_ boot_all' (pa_cons (pe_lc (own := [("_law_one", 2), ("_law_other", 3)]) (g := gTup K 2 (gCons (gName 2) (gCons (gName 3) gNil))) (tt := tYes) (by rfl) scSame.nd (pi_zipA (by rfl) T.zip_ (pa_cons (pv 0) (pa_cons (pv 1) pa_nil))) (blkOk_by (N := ["_law_found", "_law_due", "_law_one", "_law_other"]) (sc := defScope sSame) (by decide +kernel))
            (fun _ _ _ _ _ => by exact pg_tup rfl (pgs_cons (pg_name (i := 2) scSame.nd rfl (Or.inl rfl)) (pgs_cons (pg_name (i := 3) scSame.nd rfl (Or.inl rfl)) pgs_nil))) (fun _ _ _ _ _ => pts_nil)
            (fun _ _ _ _ _ => pe_call ih hr rfl D.M D.F.kp D.B .nil pass0 (pa_cons (pv 2) (pa_cons (pv 3) pa_nil)))) pa_nil))))))) pss_nil) pss_never, ?_⟩
      refine ⟨_, rfl, by show 2 ≤ sizeLine; decide, fun tp htp => ?_⟩
      have s1 : Same H (upd H tp (.tup [.ty "list", .ty "tuple"])) := new_ htp
      have hA := SqT.up ha s1
      have hB := SqT.up hb s1
      refine ⟨_, tp, _, _, [.type "list", .type "tuple"], _, rfl, upd_same, .cons (.ty _) (.cons (.ty _) .nil), tyT hB, kit2 (b1 := false) (b2 := true) (by decide +kernel) (by decide +kernel) rfl, _, rfl, iteT ?_⟩
      refine ⟨_, rfl, _, _, _, _, _, rfl, .ty _, tyT hA, kit_ty (b := "list") (r := false) (by decide +kernel), _, rfl, _, _, _, _, _, rfl, .ty _, tyT hB, kit_ty (b := "list") (r := false) (by decide +kernel), rfl, _, rfl, iteNS rfl ?_⟩
      refine ⟨_, rfl, _, _, _, _, _, rfl, .ty _, tyT hA, kit_ty (b := "tuple") (r := true) (by decide +kernel), _, rfl, _, _, _, _, _, rfl, .ty _, tyT hB, kit_ty (b := "tuple") (r := true) (by decide +kernel), rfl, _, rfl, iteNS rfl ?_⟩
      refine ⟨_, rfl, _, _, rfl, .inr (hA), _, rfl, _, _, rfl, .inr (hB), rfl, _, rfl, ifD_yes (by rw [hl]) ?_⟩
      refine ⟨_, rfl, _, rfl, _, _, xs, ys, rfl, .inr ⟨hA, hB, fun Dd hD => ?_⟩⟩
      refine lc_zipT hl (fun i H' => Same (upd H tp (.tup [.ty "list", .ty "tuple"])) H' ∧ H' Dd = some (.lst ((List.replicate i true).map V.bl))) ⟨new_ hD, upd_same⟩ (fun i H' q => ⟨SqT.up hA q.1, SqT.up hB q.1⟩) ?_ ?_
      · rintro i x y tt H' hx hy ⟨sm, hd⟩ ht
        refine ⟨tt, _, rfl, SqT.of upd_same, rfl, _, _, rfl, _, _, rfl, rfl, rfl, ?_⟩
        dsimp only [tYes]
        rw [if_pos rfl]
        have s2 : Same H' (upd H' tt (.tup [x, y])) := new_ ht
        refine ⟨_, rfl, _, rfl, x, y, rfl, ((hi i x y hx hy).same s1).same (sm.trans s2), fun H2 s3 => ⟨_, s3 _ _ (s2 _ _ hd), ?_, ?_, ?_⟩⟩
        · rw [List.length_map, List.length_replicate]
          exact Nat.lt_of_lt_of_le (List.getElem?_eq_some_iff.mp hx).1 hsz
        · intro c o e
          rw [upd_ne (ne_of_none e hD)]
          exact s3 _ _ (s2 _ _ (sm _ _ e))
        · rw [upd_same, List.replicate_succ', List.map_append]
          rfl
      · rintro H' ⟨sm, hd⟩
        refine ⟨Dd, _, rfl, SqL.of hd, ?_⟩
        have ea : (List.replicate xs.length true).all id = true := by
          rw [List.all_eq_true]
          intro x hx
          rw [(List.mem_replicate.mp hx).2]
          rfl
        rw [ea]
        exact k _ (s1.trans sm)
end
end PA

set_option maxHeartbeats 2000000
namespace PLow
open PySem PySem.W PySem.Calls PyProof.Rows
section
variable {prog : Program} {w : World} {M : Model} {A : Around} {E : Value → Shared → Prop} {s : Shared} {K : Frag} {x C L f : Addr} {h₀ : Heap} {m : Str → Option Value} {ox : Obj} {od : Option Obj} {nm : String}

/-- an int's own slot declines an instance -/
theorem add_declines {a : Int} {t : Tok} {R : PySem.Fin → Shared → Prop} (ho : s.heap.get? x = some ox) (hd : ∀ v, ox.data ≠ .prim v) (h : R (.done (.ret .notImplemented)) s) :
    wpAny (model prog w) A (Builtin.«int.__add__» ⟨[Value.int a t, Value.ref x], []⟩) R E s := by
  obtain ⟨hp, g, d, tk, os⟩ := s
  wp_walk
  split
  · rename_i e
    exact absurd e (hd _)
  · wp_walk
    exact h
theorem sub_declines {a : Int} {t : Tok} {R : PySem.Fin → Shared → Prop} (ho : s.heap.get? x = some ox) (hd : ∀ v, ox.data ≠ .prim v) (h : R (.done (.ret .notImplemented)) s) :
    wpAny (model prog w) A (Builtin.«int.__sub__» ⟨[Value.int a t, Value.ref x], []⟩) R E s := by
  obtain ⟨hp, g, d, tk, os⟩ := s
  wp_walk
  split
  · rename_i e
    exact absurd e (hd _)
  · wp_walk
    exact h
theorem mul_declines {a : Int} {t : Tok} {R : PySem.Fin → Shared → Prop} (ho : s.heap.get? x = some ox) (hd : ∀ v, ox.data ≠ .prim v) (h : R (.done (.ret .notImplemented)) s) :
    wpAny (model prog w) A (Builtin.«int.__mul__» ⟨[Value.int a t, Value.ref x], []⟩) R E s := by
  obtain ⟨hp, g, d, tk, os⟩ := s
  wp_walk
  split
  · rename_i e
    exact absurd e (hd _)
  · wp_walk
    exact h

/-- the left operand's own slot, the right one declines: an int and an instance with the reflected method -/
theorem rbin {op : Operator} {id : String} {a : Int} {t : Tok} {B : Builtin} {Q : Value → Shared → Prop} {g : Addr} (F : Fr h₀ L s.heap m) (X₀ : K.In h₀) (I : InstAt s.heap x ox C od) (hc : selfFirst K C = true)
    (hs : findIn K (.ref C) (PySem.dunder op.info.2) = some (some (.ref g))) (hr : findIn K (.ref C) (dunderR op.info.2) = some (some (.ref f))) (hf : isFn K (.ref f) = true)
    (hfT : fillsNumberSlot (.type "int") op.info.2 = pure true) (hsub : subIn K (.ref C) (.type "int") = some false)
    (slot : Slot "int" (PySem.dunder op.info.2) id) (entry : entryFor table id = some B) (args : argsOk id ⟨[Value.int a t, .ref x], []⟩)
    (dec : ∀ (A : Around) (E : Value → Shared → Prop) (R : PySem.Fin → Shared → Prop), R (.done (.ret .notImplemented)) s → wpAny (model prog w) A (B ⟨[Value.int a t, .ref x], []⟩) R E s)
    (h : wpAny (model prog w) A (call (.ref f) [.ref x, .int a t]) (PySem.W.CmpBack Q) E s) : wpAny (model prog w) A (binaryOp op (.int a t) (.ref x)) Q E s := by
  have X := X₀.keeps F.keep
  obtain ⟨cd, rest, hcd, hm⟩ := ksp_first hc
  rcases hi : op.info with ⟨sym, nm'⟩
  rw [hi] at hs hr hfT slot
  dsimp only at hs hr hfT slot
  have one := ksp_try X I hr hf h
  have L0 : Looks (model prog w) s.heap (typeOf (.int a t)) (.type "int") := Looks.of_pure rfl
  have L1 : Looks (model prog w) s.heap (typeOf (.ref x)) (.ref C) := I.type
  have L3 : Looks (model prog w) s.heap (fillsNumberSlot (.ref C) nm') true := fills_K X hcd hm hs
  have L5 : Looks (model prog w) s.heap (isSubtype (.ref C) (.type "int")) false := looks_subIn X hsub
  have hne : (Value.type "int" == Value.ref C) = false := Bool.eq_false_iff.mpr fun q => by cases beq_iff_eq.mp q
  have hpy : numberSlotInPython (.type "int") nm' = pure false := rfl
  simp only [binaryOp, hi]
  refine wpAny_holding (wpAny_bind ?_)
  unfold binaryOp1
  refine wpAny_bind (L0.here (wpAny_bind (L1.here (wpAny_bind (wpAny_of_eq hfT ?_)))))
  simp only [hne, Bool.false_eq_true, if_false]
  refine wpAny_bind (L3.here ?_)
  simp only [Bool.and_self, if_true]
  refine wpAny_bind (L5.here ?_)
  simp only [Bool.false_eq_true, if_false, pure_bind, Bool.not_false, Bool.and_self, if_true, hpy]
  refine wpAny_bind (wpAny_tryMethod_declines (id := id) (typeIs_int s a t) slot ?_)
  refine GQ.call_here slot (typeIs_int s a t) entry args (dec _ _ _ ?_)
  refine ⟨rfl, ?_⟩
  refine wpAny_bind (wpAny_mono one (fun r s' hr' => ?_) fun _ _ e => e)
  obtain ⟨v, rfl, hq⟩ := hr'
  dsimp only
  exact wpAny_bind (wpAny_rule (wpAny_pure (wpAny_pure hq)))

/-- abs(x) by the own method -/
theorem abs_own {Q : Value → Shared → Prop} (F : Fr h₀ L s.heap m) (X₀ : K.In h₀) (I : InstAt s.heap x ox C od) (hs : findIn K (.ref C) "__abs__" = some (some (.ref f))) (hf : isFn K (.ref f) = true)
    (h : wpAny (model prog w) A.in1 (call (.ref f) [.ref x]) Q E s) : wpAny (model prog w) A (call (.builtin "abs") [.ref x]) Q E s := by
  refine call_function_entry kind_abs plain_abs entry_abs (args_abs _) ?_
  unfold Builtin.«abs»
  refine wpAny_bind (m := oneArg "abs" _) (wpAny_pure ?_)
  refine wpAny_bind (special_fn (X₀.keeps F.keep) I hs (beq_iff_eq.mp hf) ?_)
  exact wpAny_mono h (fun v s' q => wpAny_pure ⟨v, rfl, q⟩) fun _ _ z => z
end
end PLow

namespace L2
open PySem PySem.Spec PyProof.Rows
section
variable {X : Cx} {CX : CXT} {k : Nat} {C f g : Addr} {fd : FuncData} {ps : List Str} {sp : Sp} {E : XK} {op : Operator}
theorem cmpBack_of {pins : List (Addr × Obj)} {σ : St} {Q : VK} {u : Value} {s' : Shared} (h : EP X pins σ Q u s') : PySem.W.CmpBack (EP X pins σ Q) u s' := by
  obtain ⟨v, H', I, r, q⟩ := id h
  cases v with
  | non => cases (show u = Value.none from r); exact h
  | bl b => cases (show u = Value.bool b from r); exact h
  | int i => obtain ⟨t, e⟩ := (show ∃ t, u = Value.int i t from r); cases e; exact h
  | str x => obtain ⟨t, e⟩ := (show ∃ t, u = Value.str x t from r); cases e; exact h
  | byt b => obtain ⟨t, e⟩ := (show ∃ t, u = Value.bytes b t from r); cases e; exact h
  | flt b => obtain ⟨t, e⟩ := (show ∃ t, u = Value.float b t from r); cases e; exact h
  | ref a => cases (show u = Value.ref a from r); exact h
  | ty n => cases (show u = Value.type n from r); exact h
/-- what of the class an own operator asks: f the method, g the reflected one -/
structure OwnOp (K : PySem.W.Frag) (C f g : Addr) (op : Operator) : Prop where
  first : PySem.W.selfFirst K C = true
  at_ : PySem.W.findIn K (.ref C) (PySem.dunder op.info.2) = some (some (.ref f))
  fn : PySem.W.isFn K (.ref f) = true
  ar : PySem.W.findIn K (.ref C) (dunderR op.info.2) = some (some (.ref g))
  fr : PySem.W.isFn K (.ref g) = true
  sub : PySem.W.subIn K (.type "int") (.ref C) = some false
  sub' : PySem.W.subIn K (.ref C) (.type "int") = some false
/-- x op y, x an instance with the own method, y an instance of the same class -/
theorem op_ownR (O : OwnOp X.K C f g op) (F : FnOk X.prog X.w X.K X.mg X.base CX k f fd ps sp) (hr : Room k X.A) (hb : Binds X.K fd ps []) (hx : Passes CX X E) :
    OpR X (binaryOp op) (fun x y H Q => ∃ a b dx dy fs gs, x = .ref a ∧ y = .ref b ∧ H a = some (.ins C dx fs) ∧ H b = some (.ins C dy gs) ∧ sp [.ref a, .ref b] H Q E) := by
  intro pins s σ H x y v u Q I rx ry h
  obtain ⟨a, b, dx, dy, fs, gs, rfl, rfl, ha, hb', q⟩ := h
  cases rx
  cases ry
  obtain ⟨mA, J, _⟩ := ins_get I.hok ha
  obtain ⟨mB, J', _⟩ := ins_get I.hok hb'
  obtain ⟨od, J, _⟩ := J.look
  obtain ⟨od', J', _⟩ := J'.look
  obtain ⟨m, hF⟩ := I.fr
  refine PySem.W.binop_K hF I.ok.mod.kin J J'.type O.first O.at_ O.fn ?_
  exact wpAny_mono (run_fn (us := [.ref a, .ref b]) (vs := [.ref a, .ref b]) F hr hb .nil hx I (.cons rfl (.cons rfl .nil)) q) (fun _ _ z => cmpBack_of z) fun _ _ z => z
/-- x op i, i an int -/
theorem op_ownI {fo ro : Option Value} (O : OwnOp X.K C f g op) (h1 : PySem.W.findIn X.K (.type "int") (PySem.dunder op.info.2) = some fo) (h2 : PySem.W.findIn X.K (.type "int") (dunderR op.info.2) = some ro)
    (F : FnOk X.prog X.w X.K X.mg X.base CX k f fd ps sp) (hr : Room k X.A) (hb : Binds X.K fd ps []) (hx : Passes CX X E) :
    OpR X (binaryOp op) (fun x y H Q => ∃ a i dx fs, x = .ref a ∧ y = .int i ∧ H a = some (.ins C dx fs) ∧ sp [.ref a, .int i] H Q E) := by
  intro pins s σ H x y v u Q I rx ry h
  obtain ⟨a, i, dx, fs, rfl, rfl, ha, q⟩ := h
  cases rx
  obtain ⟨t, rfl⟩ := ry
  obtain ⟨mA, J, _⟩ := ins_get I.hok ha
  obtain ⟨od, J, _⟩ := J.look
  obtain ⟨m, hF⟩ := I.fr
  refine PySem.W.ksp_binT hF I.ok.mod.kin J rfl O.first O.at_ O.fn O.ar (.inr ⟨_, rfl⟩) h1 h2 O.sub ?_
  exact wpAny_mono (run_fn (us := [.ref a, .int i t]) (vs := [.ref a, .int i]) F hr hb .nil hx I (.cons rfl (.cons ⟨t, rfl⟩ .nil)) q) (fun _ _ z => cmpBack_of z) fun _ _ z => z
/-- i op x, i an int: the reflected method, F of g -/
theorem op_ownL {id : String} {B : Builtin} (O : OwnOp X.K C f g op) (hfT : fillsNumberSlot (.type "int") op.info.2 = pure true)
    (slot : PySem.Slot "int" (PySem.dunder op.info.2) id) (entry : entryFor table id = some B) (args : ∀ i t x, argsOk id ⟨[Value.int i t, .ref x], []⟩)
    (dec : ∀ (i : Int) (t : Tok) (x : Addr) (ox : Obj) (s : Shared), s.heap.get? x = some ox → (∀ v, ox.data ≠ .prim v) → ∀ (A : Around) (E : Value → Shared → Prop) (R : PySem.Fin → Shared → Prop), R (.done (.ret .notImplemented)) s →
      wpAny (model X.prog X.w) A (B ⟨[Value.int i t, .ref x], []⟩) R E s)
    (F : FnOk X.prog X.w X.K X.mg X.base CX k g fd ps sp) (hr : Room k X.A) (hb : Binds X.K fd ps []) (hx : Passes CX X E) :
    OpR X (binaryOp op) (fun x y H Q => ∃ a i dx fs, x = .int i ∧ y = .ref a ∧ H a = some (.ins C dx fs) ∧ sp [.ref a, .int i] H Q E) := by
  intro pins s σ H x y v u Q I rx ry h
  obtain ⟨a, i, dx, fs, rfl, rfl, ha, q⟩ := h
  obtain ⟨t, rfl⟩ := rx
  cases ry
  obtain ⟨mA, J, _⟩ := ins_get I.hok ha
  have ho := J.obj
  obtain ⟨od, J, _⟩ := J.look
  obtain ⟨m, hF⟩ := I.fr
  refine PLow.rbin hF I.ok.mod.kin J O.first O.at_ O.ar O.fr hfT O.sub' slot entry (args _ _ _) (dec i t a _ s ho (fun v z => by simp [PySem.W.instObj] at z)) ?_
  exact wpAny_mono (run_fn (us := [.ref a, .int i t]) (vs := [.ref a, .int i]) F hr hb .nil hx I (.cons rfl (.cons ⟨t, rfl⟩ .nil)) q) (fun _ _ z => cmpBack_of z) fun _ _ z => z
/-- -x -/
theorem un_own (hs : PySem.W.findIn X.K (.ref C) "__neg__" = some (some (.ref f))) (hf : PySem.W.isFn X.K (.ref f) = true) (F : FnOk X.prog X.w X.K X.mg X.base CX k f fd ps sp) (hr : Room k X.A) (hb : Binds X.K fd ps []) (hx : Passes CX X E) :
    UnR X (unaryOp .USub) (fun x H Q => ∃ a dx fs, x = .ref a ∧ H a = some (.ins C dx fs) ∧ sp [.ref a] H Q E) := by
  intro pins s σ H x v Q I rx h
  obtain ⟨a, dx, fs, rfl, ha, q⟩ := h
  cases rx
  obtain ⟨mA, J, _⟩ := ins_get I.hok ha
  obtain ⟨od, J, _⟩ := J.look
  obtain ⟨m, hF⟩ := I.fr
  refine PySem.W.ksp_neg hF I.ok.mod.kin J hs hf ?_
  exact run_fn (us := [.ref a]) (vs := [.ref a]) F hr hb .nil hx I (.cons rfl .nil) q
/-- abs(x) -/
theorem call_absOwn (hs : PySem.W.findIn X.K (.ref C) "__abs__" = some (some (.ref f))) (hf : PySem.W.isFn X.K (.ref f) = true) (F : FnOk X.prog X.w X.K X.mg X.base CX k f fd ps sp) (hr : Room (k + 1) X.A) (hb : Binds X.K fd ps []) (hx : Passes CX X E) :
    CallR X (.builtin "abs") (fun xs H Q => ∃ a dx fs, xs = [.ref a] ∧ H a = some (.ins C dx fs) ∧ sp [.ref a] H Q E) := by
  intro pins s σ H xs us Q I r h
  obtain ⟨a, dx, fs, rfl, ha, q⟩ := h
  cases r with
  | cons r1 r2 =>
    cases r2
    cases r1
    obtain ⟨mA, J, _⟩ := ins_get I.hok ha
    obtain ⟨od, J, _⟩ := J.look
    obtain ⟨m, hF⟩ := I.fr
    refine PLow.abs_own hF I.ok.mod.kin J hs hf ?_
    have hl := F.len _ _ _ _ q
    have r2 : Vals [V.ref a] [Value.ref a] := .cons rfl .nil
    refine wpAny_call (codeAny_mono (F.run X.A.in1 X.stack s H ⟨[.ref a], []⟩ [.ref a] [.ref a] Q E hr.in1 I.env0.in1 (by
      have := hb s [.ref a] I.kIn (by simpa using hl)
      simpa using this) r2 q) fun r s' hq => ?_)
    cases r with
    | error e => exact hx pins σ H s e s' I hq
    | ok fl =>
      cases fl with
      | ret w => exact I.after hq
      | next => exact False.elim hq
      | brk => exact False.elim hq
      | cont => exact False.elim hq
/-- // by any divisor but 0 below 2 ^ 9000 in size -/
def CDivS (_ j : Int) : Prop := j ≠ 0 ∧ j.natAbs.log2 < 9000
theorem op_fdivS : OpR X (binaryOp .FloorDiv) (rI CDivS fun i j => .int (i.fdiv j)) := opI fun i j _ _ _ _ _ hc q =>
  floordiv_int hc.1 q (.inl (PyProof.noPylong_of_log2 hc.2))
end
end L2

set_option maxHeartbeats 2000000
namespace PLow
open PySem PySem.W PySem.Calls PyProof.Rows
section
variable {prog : Program} {w : World} {A : Around} {E : Value → Shared → Prop} {s : Shared} {K : Frag} {x C L f : Addr} {h₀ : Heap} {m : Str → Option Value} {ox : Obj} {od : Option Obj}
/-- bool(x) by the own method -/
theorem bool_own {Q : Value → Shared → Prop} (F : Fr h₀ L s.heap m) (X₀ : K.In h₀) (I : InstAt s.heap x ox C od) (hs : findIn K (.ref C) "__bool__" = some (some (.ref f))) (hf : isFn K (.ref f) = true)
    (h : wpAny (model prog w) A.in1.in1 (call (.ref f) [.ref x]) (PySem.W.BoolBack fun b s' => Q (.bool b) s') E s) : wpAny (model prog w) A (call (.type "bool") [.ref x]) Q E s := by
  refine callType_newIn (S := fun A R s' => s' = s ∧ wpAny (model prog w) A.in1 (call (.ref f) [.ref x]) (PySem.W.BoolBack fun b s' => R (.ok (.ret (.bool b))) s') (fun e s' => R (.error e) s') s) PySem.F.called_bool PySem.F.newNe_bool (PySem.F.typeCall_bool_1 _) (PySem.F.newCall_bool_1 _)
    (fun obj => PySem.F.args_object_init_2 obj _) PySem.F.entry_bool_new ?_ ⟨rfl, ?_⟩
  · rintro A R s' ⟨rfl, hc⟩
    have tr : ∀ {Q' : Bool → Shared → Prop}, wpAny (model prog w) A.in1 (call (.ref f) [.ref x]) (PySem.W.BoolBack Q') (fun e s' => R (.error e) s') s' → wpAny (model prog w) A.in1 (truthy (.ref x)) Q' (fun e s' => R (.error e) s') s' := fun z => truthy_K F X₀ I hs hf z
    have f1 := PySem.F.conv_sub_bool
    refine wpAny_bind (m := isType _) (wpAny_pure ?_)
    dsimp only
    simp only [Bool.not_true, Bool.false_eq_true, if_false]
    refine wpAny_bind (wpAny_of_eq f1 ?_)
    simp only [Bool.not_true, Bool.false_eq_true, if_false]
    refine wpAny_bind (m := someArgs _ _ _ _) (wpAny_pure ?_)
    dsimp only
    refine wpAny_bind (tr (wpAny_mono hc (fun v s' hv => ?_) fun _ _ z => z))
    cases v <;> first | exact hv.elim | skip
    exact wpAny_pure hv
  · refine wpAny_mono h (fun v s' hv => ?_) fun _ _ z => z
    cases v <;> first | exact hv.elim | skip
    exact ⟨rfl, hv⟩
end
end PLow
namespace L2
open PySem PySem.Spec PyProof.Rows
section
variable {X : Cx} {CX : CXT} {k : Nat} {C f : Addr} {fd : FuncData} {ps : List Str} {sp : Sp} {E : XK} {op : CmpOp}
/-- an own comparison -/
structure OwnC (K : PySem.W.Frag) (C f : Addr) (op : CmpOp) : Prop where
  at_ : PySem.W.findIn K (.ref C) (cmpInfo op).2.1 = some (some (.ref f))
  fn : PySem.W.isFn K (.ref f) = true
  sub : PySem.W.subIn K (.type "int") (.ref C) = some false
theorem rich_own (O : OwnC X.K C f op) (F : FnOk X.prog X.w X.K X.mg X.base CX k f fd ps sp) (hr : Room k X.A) (hb : Binds X.K fd ps []) (hx : Passes CX X E) {pins : List (Addr × Obj)} {s : Shared} {σ : St} {H : Hp} {y : V} {u : Value} {Q : VK} {a dx : Addr} {fs : List (Str × V)}
    (I : Inv X pins σ H s) (ha : H a = some (.ins C dx fs)) (ry : RelV y u) (hy : (∃ i, y = .int i) ∨ ∃ b dy gs, y = .ref b ∧ H b = some (.ins C dy gs)) (q : sp [.ref a, y] H Q E) :
    wpAny (model X.prog X.w) X.A (richCompare op (.ref a) u) (EP X pins σ Q) X.xe s := by
  obtain ⟨mA, J, _⟩ := ins_get I.hok ha
  obtain ⟨od, J, _⟩ := J.look
  obtain ⟨m, hF⟩ := I.fr
  have fin : wpAny (model X.prog X.w) X.A (call (.ref f) [.ref a, u]) (PySem.W.CmpBack (EP X pins σ Q)) X.xe s :=
    wpAny_mono (run_fn (us := [.ref a, u]) (vs := [.ref a, y]) F hr hb .nil hx I (.cons rfl (.cons ry .nil)) q) (fun _ _ z => cmpBack_of z) fun _ _ z => z
  rcases hy with ⟨i, rfl⟩ | ⟨b, dy, gs, rfl, hb'⟩
  · obtain ⟨t, rfl⟩ := ry
    refine PySem.W.cmp_K (op := op) (tb := .type "int") hr.units0 hF I.ok.mod.kin J (PySem.W.Looks.of_pure rfl) ?_ O.at_ O.fn fin
    unfold PySem.W.notFirst
    rw [O.sub]
    simp
  · cases ry
    obtain ⟨mB, J', _⟩ := ins_get I.hok hb'
    obtain ⟨od', J', _⟩ := J'.look
    exact PySem.W.cmp_K (op := op) (tb := .ref C) hr.units0 hF I.ok.mod.kin J J'.type (by simp [PySem.W.notFirst]) O.at_ O.fn fin
def rOwnC (C : Addr) (sp : Sp) (E : XK) : R2 := fun x y H Q => ∃ a dx fs, x = .ref a ∧ H a = some (.ins C dx fs) ∧ ((∃ i, y = .int i) ∨ ∃ b dy gs, y = .ref b ∧ H b = some (.ins C dy gs)) ∧ sp [x, y] H Q E
theorem op_ownC (O : OwnC X.K C f op) (F : FnOk X.prog X.w X.K X.mg X.base CX k f fd ps sp) (hr : Room k X.A) (hb : Binds X.K fd ps []) (hx : Passes CX X E) (hc : ∀ v u, compareOp op v u = richCompare op v u := by intro _ _; rfl) : OpR X (compareOp op) (rOwnC C sp E) := by
  intro pins s σ H x y v u Q I rx ry h
  obtain ⟨a, dx, fs, rfl, ha, hy, q⟩ := h
  cases rx
  rw [hc]
  exact rich_own O F hr hb hx I ha ry hy q
/-- a call of a built-in class whose own method answers, two levels in -/
theorem run_in2 {pins : List (Addr × Obj)} {σ : St} {H : Hp} {s : Shared} {Q : VK} {a : Addr} (F : FnOk X.prog X.w X.K X.mg X.base CX k f fd ps sp) (hr : Room (k + 2) X.A) (hb : Binds X.K fd ps []) (hx : Passes CX X E) (I : Inv X pins σ H s) (q : sp [.ref a] H Q E) :
    wpAny (model X.prog X.w) X.A.in1.in1 (call (.ref f) [.ref a]) (EP X pins σ Q) X.xe s := by
  have hl := F.len _ _ _ _ q
  have r2 : Vals [V.ref a] [Value.ref a] := .cons rfl .nil
  refine wpAny_call (codeAny_mono (F.run X.A.in1.in1 X.stack s H ⟨[.ref a], []⟩ [.ref a] [.ref a] Q E hr.in1.in1 I.env0.in1.in1 (by
    have := hb s [.ref a] I.kIn (by simpa using hl)
    simpa using this) r2 q) fun r s' hq => ?_)
  cases r with
  | error e => exact hx pins σ H s e s' I hq
  | ok fl =>
    cases fl with
    | ret w => exact I.after hq
    | next => exact False.elim hq
    | brk => exact False.elim hq
    | cont => exact False.elim hq
/-- bool(x) -/
theorem call_boolOwn (hs : PySem.W.findIn X.K (.ref C) "__bool__" = some (some (.ref f))) (hf : PySem.W.isFn X.K (.ref f) = true) (F : FnOk X.prog X.w X.K X.mg X.base CX k f fd ps sp) (hr : Room (k + 2) X.A) (hb : Binds X.K fd ps []) (hx : Passes CX X E) :
    CallR X (.type "bool") (fun xs H Q => ∃ a dx fs, xs = [.ref a] ∧ H a = some (.ins C dx fs) ∧ sp [.ref a] H (fun v H' => ∃ b, v = .bl b ∧ Q (.bl b) H') E) := by
  intro pins s σ H xs us Q I r h
  obtain ⟨a, dx, fs, rfl, ha, q⟩ := h
  obtain ⟨u, rfl, ru⟩ := vals1 r
  cases ru
  obtain ⟨mA, J, _⟩ := ins_get I.hok ha
  obtain ⟨od, J, _⟩ := J.look
  obtain ⟨m, hF⟩ := I.fr
  refine PLow.bool_own hF I.ok.mod.kin J hs hf (wpAny_mono (run_in2 F hr hb hx I q) (fun u s' z => ?_) fun _ _ z => z)
  obtain ⟨v, H', I', rv, b, rfl, q'⟩ := z
  cases rv
  exact ⟨.bl b, H', I', rfl, q'⟩
/-- str(x) -/
theorem call_strOwn (hs : PySem.W.findIn X.K (.ref C) "__str__" = some (some (.ref f))) (hf : PySem.W.isFn X.K (.ref f) = true) (F : FnOk X.prog X.w X.K X.mg X.base CX k f fd ps sp) (hr : Room (k + 2) X.A) (hb : Binds X.K fd ps []) (hx : Passes CX X E) :
    CallR X (.type "str") (fun xs H Q => ∃ a dx fs, xs = [.ref a] ∧ H a = some (.ins C dx fs) ∧ sp [.ref a] H (fun v H' => ∃ b, v = .str b ∧ Q (.str b) H') E) := by
  intro pins s σ H xs us Q I r h
  obtain ⟨a, dx, fs, rfl, ha, q⟩ := h
  obtain ⟨u, rfl, ru⟩ := vals1 r
  cases ru
  obtain ⟨mA, J, _⟩ := ins_get I.hok ha
  obtain ⟨od, J, _⟩ := J.look
  have hu := hr.units
  refine PySem.W.kso_call (by show X.A.units + 1 + 1 < cLine; omega) I.kIn J hs hf (wpAny_mono (run_in2 F hr hb hx I q) (fun u s' z => ?_) fun _ _ z => z)
  obtain ⟨v, H', I', rv, b, rfl, q'⟩ := z
  obtain ⟨t, rfl⟩ := rv
  exact ⟨.str b, H', I', ⟨t, rfl⟩, q'⟩
end
end L2

set_option maxHeartbeats 4000000
namespace L2
open PySem PySem.Spec PyProof.Rows
/-! ### static methods -/
theorem entry_sm : entryFor table "staticmethod.__get__" = some Builtin.«staticmethod.__get__» := entryFor_of_tree rfl
theorem args_sm (a b c : Value) : argsOk "staticmethod.__get__" { pos := [a, b, c] } := rfl
theorem slot_sm : Slot "staticmethod" (Str.ofString "__get__") "staticmethod.__get__" := by
  refine Slot.of (owner := "staticmethod") (n := "__get__") ?_ ?_ ?_ ?_ ?_ ?_
  · rw [typeLookup_type, builtinLookup_eq_fast]
    rfl
  · decide +kernel
  · decide +kernel
  · decide +kernel
  · left; decide +kernel
  · rw [isSubtype_type]
    rfl
theorem sm_get {prog : Program} {w : World} {A : Around} {s : Shared} {K : PySem.W.Frag} {p C : Addr} {R : Result → Shared → Prop} {f obj : Value} {rest : List Value} (h : K.In s.heap) (hr : PySem.W.recIn K p "staticmethod" = some (f :: rest)) (k : R (.ok (.ret f)) s) :
    codeAny (model prog w) A (.call (.builtin "staticmethod.__get__") { pos := [.ref p, obj, .ref C] }) R s := by
  obtain ⟨d, sl, e⟩ := PySem.W.rec_of h hr
  refine codeAny_call_builtin slot_sm.plain entry_sm (slot_sm.check _ _ _ _ _ _ _ _ ⟨_, e, rfl⟩ (args_sm _ _ _) ?_)
  show wpAny _ _ (Builtin.«staticmethod.__get__» { pos := [.ref p, obj, .ref C] }) _ _ s
  unfold Builtin.«staticmethod.__get__»
  rw [PySem.W.dga_cls]
  refine wpAny_bind (PySem.W.nd_pure ?_)
  refine wpAny_bind ?_
  unfold field
  refine wpAny_bind ?_
  unfold fieldsOf
  refine wpAny_bind (PySem.W.nd_load e ?_)
  refine PySem.W.nd_pure ?_
  refine wpAny_pure ?_
  have e0 : (f :: rest).toArray[0]? = some f := by simp
  rw [e0]
  refine wpAny_pure ?_
  unfold ret
  refine wpAny_pure ?_
  exact k
structure SMet (K : PySem.W.Frag) (C : Addr) (mc : Value) (m : Str) (p g : Addr) : Prop where
  at_ : PySem.W.findCls K (.ref C) mc m = some (.get (.builtin "staticmethod.__get__") (.ref p) .none (.ref C))
  rc : ∃ rest, PySem.W.recIn K p "staticmethod" = some (.ref g :: rest)
  hi : PySem.W.handedIn (.ref g) = true
theorem getsm_ok {X : Cx} {pins : List (Addr × Obj)} {σ : L2.St} {H : Hp} {s : Shared} {C p g : Addr} {mc : Value} {m : Str} {A : Around} {E : Value → Shared → Prop} {b : Bool} {Q : Value → Shared → Prop}
    (I : L2.Inv X pins σ H s) (r : ClX.CRead X.K C mc) (c : SMet X.K C mc m p g) (k : ∀ s', L2.Inv X pins σ H s' → Q (.ref g) s') : wpAny (model X.prog X.w) A (getAttr (.ref C) m b) Q E s := by
  obtain ⟨rest, hr⟩ := c.rc
  exact PySem.W.cls_bind I.kIn r.rd c.at_ (wpAny_call (sm_get I.kIn hr (PySem.W.handed_on c.hi (k _ (I.tok _)))))
theorem getmethsm_ok {X : Cx} {pins : List (Addr × Obj)} {σ : L2.St} {H : Hp} {s : Shared} {C p g : Addr} {mc : Value} {m : Str} {A : Around} {E : Value → Shared → Prop} {pl : Sem Bool} {Q : Value × List Value → Shared → Prop}
    (I : L2.Inv X pins σ H s) (r : ClX.CRead X.K C mc) (c : SMet X.K C mc m p g) (k : ∀ s', L2.Inv X pins σ H s' → Q (.ref g, []) s') : wpAny (model X.prog X.w) A (getMethod (.ref C) m pl) Q E s :=
  PySem.W.method_cls I.kIn r.ga (getsm_ok I r c k)
def tSMeth (C : Addr) (sp : Sp) (E : XK) (ta : TE) (t : TA) : TE := fun σ H Q => ta σ H fun x H1 => x = .ref C ∧ t σ H1 fun vs H2 => sp vs H2 Q E
theorem pe_smeth {X : Cx} {CX : CXT} {k : Nat} {C p g : Addr} {fd : FuncData} {ps : List Str} {mc : Value} {sp : Sp} {E : XK} {o e : PySem.Expr} {es : List PySem.Expr} {m : Str} {pos apos : Pos} {ta : TE} {t : TA} {pl : Sem Bool}
    (ho : PE X o ta) (r : ClX.CRead X.K C mc) (c : SMet X.K C mc m p g) (F : FnOk X.prog X.w X.K X.mg X.base CX k g fd ps sp) (hr : Room k X.A) (kp : PySem.W.keepIn X.K (.ref g) = true) (hb : Binds X.K fd ps []) (hx : Passes CX X E) (ha : PA X (e :: es) t)
    (hs : starEach (e :: es) X.env = (false, eval e X.env) :: starEach es X.env := by rfl) (hpl : ((backTo pos (starEach es X.env)).any fun x => x.fst) = false := by rfl)
    (he : eval ((o.Attribute m apos).Call (e :: es) [] pos) X.env = (do
      let ov ← eval o X.env
      standAt apos.atName
      let __x ← holding [ov] (getMethod ov m pl)
      match __x with
      | (f, first) => callWith pos f first (backTo pos (starEach (e :: es) X.env)) (backToKw pos (keywordEach [] X.env))) := by rfl) :
    PE X ((o.Attribute m apos).Call (e :: es) [] pos) (tSMeth C sp E ta t) := by
  refine ⟨fun pins s σ H Q I h => PySem.W.methodCall_KW (pl := pl) (thn (ho.run pins s σ H _ I h) fun v s1 q => ?_) he⟩
  obtain ⟨x, H1, I1, rx, rfl, q⟩ := q
  cases rx
  refine getmethsm_ok I1 r c fun s2 I2 => ?_
  refine PySem.W.callWith_K I2.ok.mod.kin kp (thn (ha.run pos pins s2 σ H1 _ I2 q) fun us s3 q3 => ?_) hs hpl
  obtain ⟨vs, H3, I3, rv, q3⟩ := q3
  exact ⟨I3.kIn, run_fn F hr hb .nil hx I3 rv (by simpa using q3)⟩
end L2

set_option maxHeartbeats 8000000
namespace PA
open PySem L2 RZ
open C8 (pss_cut tCut)
open TS (Ln EOk LOk GoodL wS rdW txt rowS numS)
theorem boot_str' : bootBuiltins "str" = some (.type "str") := by decide +kernel
def tJoined (ts : List TE) : TE := fun σ H Q => tJs ts Str.empty σ H fun out H1 => Q (.str out) H1
theorem pe_joinedT {X : Cx} {v1 v2 : PySem.Expr} {rest : List PySem.Expr} {pos : Pos} {ts : List TE} (h : PJ X (v1 :: v2 :: rest) ts) : PE X (.JoinedStr (v1 :: v2 :: rest) pos) (tJoined ts) := pe_joined h
def rowV (l : Ln) : List V := lv l
/-- the cells that a piece of a text is read as -/
def pieceV (p : Str) : List V := (PySem.Txt.split p " ").map fun w => ev (rdW w)
def spWord : Sp := fun vs H Q _ => ∃ o : Option Nat, vs = [ev o] ∧ EOk 48 o ∧ Q (.str (wS o)) H
def spStr (C : Addr) : Sp := fun vs H Q _ => ∃ (p : Addr) (ls : List Ln), vs = [.ref p] ∧ RowsAt C H p (ls.map lv) ∧ GoodL ls ∧ ∀ H', Same H H' → Q (.str (txt ls)) H'
def spReadSt : Sp := fun vs H Q _ => ∃ w : Str, vs = [.str w] ∧ w.length ≤ 9000 ∧ Q (ev (rdW w)) H
section
variable {P : Program} {w : World} {K : PySem.W.Frag} {mg : Str → Option Value} {base : Heap} {C X PE_ Fo : Addr}
theorem scWord : FnScope ["entry"] ["entry"] (defScope sWord) := ⟨rfl, rfl, rfl, by decide +kernel, rfl, by decide +kernel, by decide +kernel⟩
theorem ok_word {f : Addr} {fd : FuncData} (F : Fun K "_word" "_word" sWord f fd) (T : Txt K mg) : FnOk P w K mg base CX0 1 f fd ["entry"] spWord := by
  refine F.ok scWord (fun vs H Q E h => ?_) (fun cdv A outer s H vs Q E hr h => ?_)
  · obtain ⟨o, rfl, _⟩ := h
    rfl
  · obtain ⟨o, rfl, ho, k⟩ := h
    refine ⟨_, pss_one (ps_ret (pe_ifExp (pt_cmpR op_isN (pv 0) pe_non (nomark _)) pe_str (pe_callTy call_str_int (by rfl) T.str_ boot_str' (pa_cons (pv 0) pa_nil)))), ?_⟩
    refine ⟨_, rfl, rfl, _, rfl, ?_⟩
    cases o with
    | none => exact iteT k
    | some n =>
      have hn := ho n rfl
      have h1 : ((n : Int).natAbs.log2 < 1920) := by
        rw [Int.natAbs_natCast]
        refine Nat.lt_of_le_of_lt (Nat.log2_le_self n) (by omega)
      exact iteF ⟨_, rfl, (n : Int), rfl, h1, k⟩
theorem scStr : FnScope ["self", "same", "other"] ["self"] (defScope sStr) := ⟨rfl, rfl, rfl, by decide +kernel, rfl, by decide +kernel, by decide +kernel⟩
theorem ok_str {f g : Addr} {fd gd : FuncData} (F : Fun K "__str__" "RowSet.__str__" sStr f fd) (T : Txt K mg) (TC : TxtC K mg C Fo) (D : Df K mg "_word" sWord g gd ["entry"]) : FnOk P w K mg base CX0 2 f fd ["self"] (spStr C) := by
  have G : FnOk P w K mg base CX0 1 g gd ["entry"] spWord := ok_word D.F T
  refine F.ok scStr (fun vs H Q E h => ?_) (fun cdv A outer s H vs Q E hr h => ?_)
  · obtain ⟨p, _, rfl, _⟩ := h
    rfl
  · obtain ⟨p, ls, rfl, ⟨dx, R, refs, hp, hR, hE⟩, gd, kk⟩ := h
    refine ⟨_, pss_one (ps_ret (pe_join pe_str (pe_lc (own := [("same", 1), ("other", 2)]) (g := gTup K 2 (gCons (gName 1) (gCons (gName 2) gNil))) (tt := tYes) (by rfl) scStr.nd (pi_tup (pe_fld (pv 0) rfl)) (blkOk_by (N := ["self", "same", "other"]) (sc := defScope sStr) (by decide +kernel))
          (fun _ _ _ _ _ => by exact pg_tup rfl (pgs_cons (pg_name (i := 1) scStr.nd rfl (Or.inl rfl)) (pgs_cons (pg_name (i := 2) scStr.nd rfl (Or.inl rfl)) pgs_nil))) (fun _ _ _ _ _ => pts_nil)
          (fun _ _ _ _ _ => pe_joinedT (.cons (pe_fmt (pe_call G hr rfl D.M D.F.kp D.B .nil pass0 (pa_cons (pv 1) pa_nil))) (.cons pe_str (.cons (pe_fmt (pe_call G hr rfl D.M D.F.kp D.B .nil pass0 (pa_cons (pv 2) pa_nil))) .nil))))))), ?_⟩
    have hne := gd.ne
    have h48 := gd.all48
    have hlr : refs.length = ls.length := by rw [hE.1, List.length_map]
    refine ⟨⟨_, rfl⟩, _, rfl, p, C, dx, _, _, rfl, hp, TC.cl, TC.nR, rsf_rows R, R, rfl, ⟨_, SqT.of hR⟩, fun Dd hD => ?_⟩
    refine lc_same (xs := refs) (walk_t (K := K) (a := R) (xs := refs)) (by rw [hlr]; exact Nat.le_trans gd.most (by decide)) hD (fun H' s' => SqT.of (s' _ _ hR)) ((ls.map rowS).map V.str) (by simp [hlr]) (fun i x y H' Φ Ψ hx hy sm k => ?_) fun H1 s1 hd1 => ?_
    · rw [List.getElem?_map, List.getElem?_map, Option.map_eq_some_iff] at hy
      obtain ⟨y1, hy, rfl⟩ := hy
      rw [Option.map_eq_some_iff] at hy
      obtain ⟨l, hl, rfl⟩ := hy
      obtain ⟨c, rfl, hc⟩ := hE.2 i x (lv l) hx (by rw [List.getElem?_map, hl]; rfl)
      have ok := h48 l (List.mem_of_getElem? hl)
      have w1 := (TS.wS_ok ok.1).2
      have w2 := (TS.wS_ok ok.2).2
      have hsp : (" " : Str).length = 1 := by decide +kernel
      have he : Str.empty.length = 0 := rfl
      have big : ∀ {n : Nat}, n ≤ 300 → n ≤ sizeLine := fun h => Nat.le_trans h (by decide)
      refine ⟨c, _, rfl, SqT.of (sm _ _ hc), rfl, _, _, rfl, _, _, rfl, rfl, rfl, ?_⟩
      dsimp only [tYes]
      rw [if_pos rfl]
      refine ⟨_, rfl, l.1, rfl, ok.1, .inl ⟨_, rfl, big (by omega), _, rfl, big (by rw [Str.length_append]; omega), _, rfl, big (by rw [Str.length_append, Str.length_append]; omega), _, rfl, l.2, rfl, ok.2, .inl ⟨_, rfl, big (by omega), _, rfl, big (by rw [Str.length_append, Str.length_append, Str.length_append]; omega), ?_⟩⟩⟩
      have e : Str.empty ++ wS l.1 ++ " " ++ wS l.2 = rowS l := by
        apply TS.cs_inj
        unfold rowS
        rw [TS.join_two, Str.join.eq_2]
        have z : TS.cs Str.empty = [] := rfl
        simp only [TS.cs_app, z, List.nil_append, List.append_assoc]
      rw [e]
      exact k H' fun _ _ e => e
    · refine ⟨_, Dd, ls.map rowS, rfl, rfl, .inl (SqL.of hd1), ?_, ?_⟩
      · have q := TS.rows_sum h48
        have z : ("; " : Str).length = 2 := by decide +kernel
        have := gd.most
        rw [z, List.length_map]
        omega
      · rw [TS.join_eq]
        exact kk H1 s1
theorem scReadSt : FnScope ["word"] ["word"] (defScope sReadSt) := ⟨rfl, rfl, rfl, by decide +kernel, rfl, by decide +kernel, by decide +kernel⟩
theorem ok_readSt {f : Addr} {fd : FuncData} (F : Fun K "read_state" "read_state" sReadSt f fd) (T : Txt K mg) : FnOk P w K mg base CX0 1 f fd ["word"] spReadSt := by
  refine F.ok scReadSt (fun vs H Q E h => ?_) (fun cdv A outer s H vs Q E hr h => ?_)
  · obtain ⟨v, rfl, _⟩ := h
    rfl
  · obtain ⟨v, rfl, hl, k⟩ := h
    refine ⟨_, pss_cons (ps_if (PW.pt (pw_or (pt_cmpR op_gt (pe_callB call_len_str (by rfl) T.len_ PySem.boot_len (pa_cons (pv 0) pa_nil)) pe_int (nomark _))
        (pw_or (pt_not (pt_val (pe_bm0 PySem.F.plainAttrs_str PySem.F.slot_str_isascii PySem.F.type_str_isascii mt_isascii (pv 0)))) (pw_or1 (pt_not (pt_val (pe_bm0 PySem.F.plainAttrs_str PySem.F.slot_str_isdigit PySem.F.type_str_isdigit mt_isdigit (pv 0)))))))) (pss_one (ps_ret pe_non)) pss_nil)
      (pss_one (ps_ret (pe_callTy call_int_str (by rfl) T.int_ boot_int' (pa_cons (pv 0) pa_nil)))), ?_⟩
    refine ⟨_, rfl, v, rfl, Nat.le_trans hl (by decide), _, _, rfl, rfl, _, rfl, ifD_2 (fun h2 => iteT ?_) (fun h2 => ?_)⟩
    · rw [TS.rdW_none (fun z => by have := z.1; omega)] at k
      exact k
    have h2' : v.length ≤ 2 := by omega
    refine ⟨_, rfl, rfl, v, rfl, rfl, trivial, _, rfl, ?_⟩
    cases ha : PySem.Txt.isascii v with
    | false =>
      rw [TS.rdW_none (fun z => by rw [ha] at z; exact absurd z.2.1 (by decide))] at k
      exact iteT k
    | true =>
      refine iteF ⟨_, rfl, rfl, v, rfl, rfl, trivial, _, rfl, ?_⟩
      cases hd : PySem.Txt.isdigit v with
      | false =>
        rw [TS.rdW_none (fun z => by rw [hd] at z; exact absurd z.2.2 (by decide))] at k
        exact iteT k
      | true =>
        obtain ⟨n, e1, e2⟩ := TS.rdW_some h2' ha hd
        rw [e1] at k
        exact iteF ⟨_, rfl, v, (n : Int), rfl, e2, Nat.le_trans h2' (by decide), k⟩
/-- a RowSet is made, or refused -/
theorem mk_rows {H : Hp} {Q : VK} {E : XK} {L : Addr} {refs : List V} {rows : List (List V)} (hL : H L = some (.lst refs) ∨ H L = some (.tup refs)) (hE : Ea H TLc refs rows) (hl : rows.length ≤ 9000) (hc : ∀ r ∈ rows, ∀ x ∈ r, Cell H x) {x dx : Addr} (nx : H x = none) (ndx : H dx = none) (nex : dx ≠ x)
    (kg : tabOk rows = true → ∀ H', Same H H' → RowsAt C H' x rows → Q .non H') (kb : tabOk rows = false → ∀ H', Same H H' → E (.ref X) none H') : spInit C X [V.ref x, V.ref L] (upd (upd H dx (.own x)) x (.ins C dx [])) Q E := by
  have s1 : Same H (upd (upd H dx (.own x)) x (.ins C dx [])) := fun c o e => by
    rw [upd_ne (ne_of_none e nx), upd_ne (ne_of_none e ndx)]
    exact e
  refine ⟨x, dx, L, refs, rows, rfl, upd_same, hL.imp (fun q => s1 _ _ q) (fun q => s1 _ _ q), hE.imp fun c r q => q.imp (fun q => s1 _ _ q) (fun q => s1 _ _ q), hl, fun r hr v hv => (hc r hr v hv).kin fun c xs e => s1 _ _ e, fun ok H' r kp => kg ok H' (fun c o e => kp c o (s1 _ _ e) (ne_of_none e nx)) r, fun bad H' kp => kb bad H' fun c o e => kp c o (s1 _ _ e) (ne_of_none e nx)⟩
end
end PA

set_option maxHeartbeats 8000000
namespace PA
open PySem L2 RZ
open C8 (pss_cut tCut)
open TS (Ln EOk LOk GoodL wS rdW txt rowS numS)
theorem pe_bmF {X : Cx} {K : PySem.W.Frag} (hK : X.K = K) {o e : PySem.Expr} {es : List PySem.Expr} {to : TE} {t : TA} {name : Str} {apos cpos : Pos} {T id : String} {r : V → List V → Hp → VK → Prop} (pa : PlainAttrs T) (sl : Slot T name id) (hty : typeOf (Value.builtin id) = pure (Value.type "method_descriptor")) (hm : MtR X id r) (ho : PE X o to) (ha : PA X (e :: es) t)
    (h1 : attributeBase o name X.env (eval o X.env) = eval o X.env := by rfl)
    (h2 : ((((backTo cpos (starEach (e :: es) X.env)).all fun x => !x.fst) && (backToKw cpos (keywordEach [] X.env)).all fun x => x.fst.isSome) && decide (((e :: es).length + ([] : List Keyword).length + if ([] : List Keyword).isEmpty = true then 0 else 1) < 30)) = true := by rfl)
    (h3 : (apos.endLine == cpos.line) = true := by rfl)
    (h4 : starEach (e :: es) X.env = (false, eval e X.env) :: starEach es X.env := by rfl)
    (h5 : ((backTo cpos (starEach es X.env)).any fun x => x.fst) = false := by rfl) : PE X ((o.Attribute name apos).Call (e :: es) [] cpos) (tBM K T r to t) := by
  subst hK
  exact pe_bm pa sl hty hm ho ha h1 h2 h3 h4 h5
theorem pi_listK {X : Cx} {K : PySem.W.Frag} (h : X.K = K) {tg l : PySem.Expr} {tl : TE} (hl : PE X l tl) : PI X tg l (iList K tl) := h ▸ pi_list hl
theorem ev_inj {a b : Option Nat} (h : ev a = ev b) : a = b := by
  cases a <;> cases b
  · rfl
  · cases h
  · cases h
  · rename_i m n
    have : (m : Int) = (n : Int) := by
      have h : V.int (m : Int) = V.int (n : Int) := h
      injection h
    rw [Int.ofNat_inj.mp this]
theorem lv_inj {l l' : Ln} (h : lv l = lv l') : l = l' := by
  unfold lv at h
  simp only [List.cons.injEq, and_true] at h
  exact Prod.ext (ev_inj h.1) (ev_inj h.2)
theorem piece_row {l : Ln} (h : LOk 48 l) : pieceV (rowS l) = lv l := by
  unfold pieceV
  rw [TS.split_row h]
  show [ev (rdW (wS l.1)), ev (rdW (wS l.2))] = _
  rw [TS.rdW_wS h.1, TS.rdW_wS h.2]
  rfl
theorem pieces_txt {ls : List Ln} (g : GoodL ls) : (PySem.Txt.split (txt ls) "; ").map pieceV = ls.map lv := by
  rw [TS.split_txt g.ne g.all48, List.map_map]
  exact List.map_congr_left fun l hl => piece_row (g.all48 l hl)
theorem tab_back {rows : List (List V)} (h : tabOk rows = true) (hc : ∀ r ∈ rows, ∀ x ∈ r, ∃ o, x = ev o) : ∃ ls, rows = ls.map lv ∧ GoodL ls := by
  have one : ∀ r ∈ rows, ∃ l, r = lv l := fun r hr => by
    have hh := h
    unfold tabOk at hh
    rw [Bool.and_eq_true, List.all_eq_true] at hh
    have q := hh.2 r hr
    unfold rowOk at q
    rw [Bool.and_eq_true, decide_eq_true_eq] at q
    match r, q.1, hc r hr with
    | [x, y], _, hx =>
      obtain ⟨a, rfl⟩ := hx x (by simp)
      obtain ⟨b, rfl⟩ := hx y (by simp)
      exact ⟨(a, b), rfl⟩
  have all : ∀ rows : List (List V), (∀ r ∈ rows, ∃ l, r = lv l) → ∃ ls : List Ln, rows = ls.map lv := by
    intro rows
    induction rows with
    | nil => exact fun _ => ⟨[], rfl⟩
    | cons r rs ih =>
      intro hh
      obtain ⟨l, rfl⟩ := hh r (by simp)
      obtain ⟨ls, rfl⟩ := ih fun r hr => hh r (List.mem_cons_of_mem _ hr)
      exact ⟨l :: ls, rfl⟩
  obtain ⟨ls, rfl⟩ := all rows one
  exact ⟨ls, rfl, tab_lv.mp h⟩
/-- the text of a row set -/
def IsTxt (t : Str) : Prop := ∃ ls, GoodL ls ∧ t = txt ls
def spRead (C X : Addr) : Sp := fun vs H Q E => ∃ t : Str, vs = [.str t] ∧ t.length ≤ 8000 ∧ (∀ ls, GoodL ls → t = txt ls → ∀ p H', Same H H' → H p = none → RowsAt C H' p (ls.map lv) → Q (.ref p) H') ∧ (¬ IsTxt t → ∀ H', Same H H' → E (.ref X) none H')
/-- what makes and writes RowSets -/
structure LibR (K : PySem.W.Frag) (mg : Str → Option Value) (C X PE_ Fo fI g1 g2 g3 g4 fS s1 r1 : Addr) (dI gd1 gd2 gd3 gd4 dS sd1 rd1 : FuncData) : Prop where
  T : Txt K mg
  TC : TxtC K mg C Fo
  TX : TxtX K mg X PE_
  I : Fun K "__init__" "RowSet.__init__" sInit fI dI
  M : Mk K C fI
  bI : Binds K dI ["self", "rows"] []
  D1 : Df K mg "is_integer" sIsInt g1 gd1 ["value"]
  D2 : Df K mg "is_below" sBelow g2 gd2 ["value", "count"]
  D3 : Df K mg "_is_row" sIsRow g3 gd3 ["row", "count"]
  D4 : Df K mg "_check_rows" sCheck g4 gd4 ["rows"]
  FS : Fun K "__str__" "RowSet.__str__" sStr fS dS
  bS : Binds K dS ["self"] []
  mS : Meth K C "__str__" fS
  S1 : Df K mg "_word" sWord s1 sd1 ["entry"]
  R1 : Df K mg "read_state" sReadSt r1 rd1 ["word"]
section
variable {P : Program} {w : World} {K : PySem.W.Frag} {mg : Str → Option Value} {base : Heap} {C X PE_ Fo fI g1 g2 g3 g4 fS s1 r1 : Addr} {dI gd1 gd2 gd3 gd4 dS sd1 rd1 : FuncData}
abbrev NRead : List Str := ["text", "rows", "word", "piece"]
theorem scRead : FnScope NRead ["text"] (defScope sRead) := ⟨rfl, rfl, rfl, by decide +kernel, rfl, by decide +kernel, by decide +kernel⟩
theorem ok_read {f : Addr} {fd : FuncData} (F : Fun K "read" "RowSet.read" sRead f fd) (L : LibR K mg C X PE_ Fo fI g1 g2 g3 g4 fS s1 r1 dI gd1 gd2 gd3 gd4 dS sd1 rd1) : FnOk P w K mg base (L2.CX P w) 7 f fd ["text"] (spRead C X) := by
  have T := L.T
  have TX := L.TX
  have GI : FnOk P w K mg base (L2.CX P w) 5 fI dI ["self", "rows"] (spInit C X) := ok_init L.I T L.TC TX L.D1 L.D2 L.D3 L.D4
  have GS : FnOk P w K mg base CX0 2 fS dS ["self"] (spStr C) := ok_str L.FS T L.TC L.S1
  have GRs : FnOk P w K mg base CX0 1 r1 rd1 ["word"] spReadSt := ok_readSt L.R1.F T
  refine F.okX scRead (fun vs H Q E h => ?_) (fun cdv A outer s H vs Q E hr h => ?_)
  · obtain ⟨_, rfl, _⟩ := h
    rfl
  · obtain ⟨t, rfl, hl, kg, kb⟩ := h
    have hr1 : Room 1 _ := hr.mono (by decide)
    have hr4 : Room 4 _ := hr.mono (by decide)
    refine ⟨_, pss_cons (ps_set (i := 1) scRead.nd rfl (Or.inl rfl) (pe_make (E := E) L.M GI hr rfl L.TC.mgC L.bI .nil (passes_call (takes_of rfl rfl rfl rfl) (fun _ _ _ _ z => z)) (pa_cons (pe_lc (own := [("piece", 3)]) (g := gName 3) (tt := tYes) (by rfl) scRead.nd (pi_list (pe_bm PySem.F.plainAttrs_str PySem.F.slot_str_split PySem.F.type_str_split mt_split (pv 0) (pa_cons pe_str pa_nil))) (blkOk_by (N := NRead) (sc := defScope sRead) (by decide +kernel))
          (fun _ _ _ _ _ => pg_name (i := 3) scRead.nd rfl (Or.inl rfl)) (fun _ _ _ _ _ => pts_nil)
          (fun _ _ _ _ _ => pe_lc (own := [("word", 2)]) (g := gName 2) (tt := tYes) (by rfl) scRead.nd (pi_listK (K := K) rfl (pe_bmF (K := K) rfl PySem.F.plainAttrs_str PySem.F.slot_str_split PySem.F.type_str_split mt_split (pv 3) (pa_cons pe_str pa_nil))) (by refine blkOk_by (N := NRead) ?_; kernel_rfl)
            (fun _ _ _ _ _ => pg_name (i := 2) scRead.nd rfl (Or.inl rfl)) (fun _ _ _ _ _ => pts_nil)
            (fun _ _ _ _ _ => pe_call GRs hr1 rfl L.R1.M L.R1.F.kp L.R1.B .nil pass0 (pa_cons (pv 2) pa_nil)))) pa_nil)))
      (pss_cons (ps_if (pt_cmpR op_ne (pe_callTy (call_strOwn (E := E0) L.mS.at_ L.mS.fn GS hr4 L.bS pass0) (by rfl) T.str_ boot_str' (pa_cons (pv 1) pa_nil)) (pv 0) (nomark _)) (pss_one (ps_raise rfl (takes_of rfl rfl rfl rfl) (pmk_own PySem.F.excBase_ValueError TX.x TX.g TX.k (raises_own TX.b TX.t) (by rfl)))) pss_nil)
      (pss_one (ps_ret (pv 1)))), ?_⟩
    have hps := TS.split_len t "; " (by decide +kernel)
    refine ⟨_, rfl, rfl, _, _, rfl, rfl, by decide +kernel, Nat.le_trans (Nat.add_le_add_right hl 2) (by decide), fun q hq => ⟨q, rfl, ⟨_, SqL.of upd_same⟩, fun Dd hD => ?_⟩⟩
    have sq := new_ (o := .lst ((PySem.Txt.split t "; ").map V.str)) hq
    have hqq : (upd H q (.lst ((PySem.Txt.split t "; ").map V.str))) q = some (.lst ((PySem.Txt.split t "; ").map V.str)) := upd_same
    generalize (upd H q (.lst ((PySem.Txt.split t "; ").map V.str))) = H1 at sq hqq hD
    have hpl : ∀ p ∈ PySem.Txt.split t "; ", p.length ≤ 8000 := fun p hp => Nat.le_trans (TS.part_len hp) hl
    generalize hpcs : PySem.Txt.split t "; " = pcs at hqq hps hpl hD ⊢
    refine lc_acc (xs := pcs.map V.str) (walk_l (K := K) (a := q) (xs := pcs.map V.str)) (by rw [List.length_map]; exact Nat.le_trans hps (Nat.le_trans (Nat.succ_le_succ hl) (by decide))) hD (fun H' s' => SqL.of (s' _ _ hqq)) (fun i acc H' => Ea H' (fun H c r => H c = some (.lst r) ∧ c ≠ Dd) acc ((pcs.map pieceV).take i)) (fun i acc H' e => by rw [e.1, List.length_take, List.length_map]; omega) (by rw [List.take_zero]; exact Ea.nil) (fun i x H' acc Φ Ψ hi hx sm hd he kf => ?_) fun H3 acc s3 hd he => ?_
    · rw [List.getElem?_map, Option.map_eq_some_iff] at hx
      obtain ⟨pc, hpc, rfl⟩ := hx
      have hpcl := hpl pc (List.mem_of_getElem? hpc)
      have hws := TS.split_len pc " " (by decide +kernel)
      refine ⟨rfl, ?_⟩
      dsimp only [tYes]
      rw [if_pos rfl]
      refine ⟨_, rfl, rfl, _, _, rfl, rfl, by decide +kernel, Nat.le_trans (Nat.add_le_add_right hpcl 2) (by decide), fun u hu => ⟨u, rfl, ⟨_, SqL.of upd_same⟩, fun De hE => ?_⟩⟩
      have su := new_ (o := .lst ((PySem.Txt.split pc " ").map V.str)) hu
      have huu : (upd H' u (.lst ((PySem.Txt.split pc " ").map V.str))) u = some (.lst ((PySem.Txt.split pc " ").map V.str)) := upd_same
      generalize (upd H' u (.lst ((PySem.Txt.split pc " ").map V.str))) = H4 at su huu hE
      refine lc_same (xs := (PySem.Txt.split pc " ").map V.str) (walk_l (K := K) (a := u) (xs := (PySem.Txt.split pc " ").map V.str)) (by rw [List.length_map]; exact Nat.le_trans hws (Nat.le_trans (Nat.succ_le_succ hpcl) (by decide))) hE (fun H' s' => SqL.of (s' _ _ huu)) (pieceV pc) (by unfold pieceV; simp) (fun i x y H' Φ Ψ hx hy sm k => ?_) fun H5 s5 hd5 => ?_
      · rw [List.getElem?_map, Option.map_eq_some_iff] at hx
        obtain ⟨wd, hwd, rfl⟩ := hx
        unfold pieceV at hy
        rw [List.getElem?_map, hwd] at hy
        cases hy
        refine ⟨rfl, ?_⟩
        dsimp only [tYes]
        rw [if_pos rfl]
        exact ⟨_, rfl, wd, rfl, Nat.le_trans (Nat.le_trans (TS.part_len (List.mem_of_getElem? hwd)) hpcl) (by decide), k H' fun _ _ e => e⟩
      · have s45 := su.trans s5
        have hd' := s45 _ _ hd
        refine kf _ H5 s45 hd' fun H6 h6 b1 b2 => ?_
        have hDe : De ≠ Dd := (ne_of_none (su _ _ hd) hE).symm
        rw [take_succ' (show (pcs.map pieceV)[i]? = some (pieceV pc) by rw [List.getElem?_map, hpc]; rfl)]
        exact Ea.push (he.imp fun c r z => ⟨b1 _ _ z.2 (s45 _ _ z.1), z.2⟩) ⟨b1 _ _ hDe hd5, hDe⟩
    rw [List.length_map, List.take_of_length_le (by rw [List.length_map]; exact Nat.le_refl _)] at he
    have hcell : ∀ r ∈ pcs.map pieceV, ∀ x ∈ r, ∃ o, x = ev o := fun r hr x hx => by
      obtain ⟨pc, _, rfl⟩ := List.mem_map.mp hr
      obtain ⟨wd, _, rfl⟩ := List.mem_map.mp hx
      exact ⟨_, rfl⟩
    have noTab : ∀ ls, GoodL ls → t = txt ls → pcs.map pieceV = ls.map lv := fun ls g e => by
      rw [← hpcs, e]
      exact pieces_txt g
    have s13 := sq.trans s3
    intro x dx nx ndx nex
    refine mk_rows (C := C) (X := X) (.inl hd) (he.imp fun c r z => .inr z.1) (by rw [List.length_map]; omega) (fun r hr x hx => by obtain ⟨o, rfl⟩ := hcell r hr x hx; exact cell_ev o) nx ndx nex (fun ok H4 s4 r4 => ?_) fun bad H4 s4 => ?_
    · obtain ⟨ls, e, g⟩ := tab_back ok hcell
      rw [e] at r4
      obtain ⟨dx4, T4, refs4, h4x, h4T, h4E⟩ := id r4
      refine ⟨rfl, _, rfl, x, dx4, _, rfl, h4x, x, ls, rfl, r4, g, fun H5 s5 => ⟨_, rfl, _, rfl, rfl, _, rfl, ?_⟩⟩
      by_cases ht : txt ls = t
      · rw [decide_eq_true (by rw [ht])]
        refine iteF ⟨_, rfl, ?_⟩
        refine kg ls g ht.symm x H5 ((s13.trans s4).trans s5) (s13.none nx) ⟨dx4, T4, refs4, s5 _ _ h4x, s5 _ _ h4T, h4E.same s5⟩
      · rw [decide_eq_false (fun z => ht (by injection z))]
        refine iteT (kb ?_ H5 ((s13.trans s4).trans s5))
        rintro ⟨ls', g', e'⟩
        have q := noTab ls' g' e'
        rw [e] at q
        have q := TS.map_inj_on (fun x _ y _ h => lv_inj h) q
        exact ht (by rw [q, e'])
    · refine kb ?_ H4 (s13.trans s4)
      rintro ⟨ls', g', e'⟩
      rw [noTab ls' g' e', tab_lv.mpr g'] at bad
      cases bad
end
end PA

set_option maxHeartbeats 4000000
namespace PA
open PySem L2 RZ
open C8 (pss_cut tCut)
open TS (Ln EOk LOk GoodL)
/-- a tuple of the cells, or a list that is none of N -/
def TLx (N : List Addr) (H : Hp) (c : Addr) (r : List V) : Prop := H c = some (.tup r) ∨ (c ∉ N ∧ H c = some (.lst r))
section
variable {N : List Addr} {H H' : Hp} {c a l D : Addr} {r : List V} {n m : Nat}
theorem TLx.same (q : TLx N H c r) (s : Same H H') : TLx N H' c r := q.imp (fun q => s _ _ q) fun q => ⟨q.1, s _ _ q.2⟩
theorem TLx.keep (q : TLx N H c r) (S : StreamAt H a l n) (ha : a ∈ N) (hl : l ∈ N) (k : Keep a l H H') : TLx N H' c r := by
  obtain ⟨ne, ns, x, z, h1, h2, _⟩ := S
  rcases q with q | ⟨nn, q⟩
  · exact .inl (k _ _ (ne_of (H := H) q h1 (by intro z; cases z)) (ne_of (H := H) q h2 (by intro z; cases z)) q)
  · exact .inr ⟨nn, k _ _ (fun e => nn (e ▸ ha)) (fun e => nn (e ▸ hl)) q⟩
theorem TLx.lst {xs ys : List V} (q : TLx N H c r) (hD : D ∈ N) (hd : H D = some (.lst xs)) : TLx N (upd H D (.lst ys)) c r := by
  rcases q with q | ⟨nn, q⟩
  · exact .inl (by rw [upd_ne (ne_of (H := H) q hd (by intro z; cases z))]; exact q)
  · exact .inr ⟨nn, by rw [upd_ne (show c ≠ D from fun e => nn (by rw [e]; exact hD))]; exact q⟩
theorem TLx.tl (q : TLx N H c r) : TLc H c r := q.imp id fun q => q.2
theorem TLx.sub {N' : List Addr} (q : TLx N H c r) (h : ∀ x, x ∈ N' → x ∈ N) : TLx N' H c r := q.imp id fun q => ⟨fun z => q.1 (h _ z), q.2⟩
theorem keep_noneH {a l : Addr} {H H' : Hp} {p : Addr} (k : Keep a l H H') (pa : p ≠ a) (pl : p ≠ l) (h : H' p = Option.none) : H p = Option.none := by
  cases e : H p with
  | none => rfl
  | some o => rw [k p o pa pl e] at h; cases h
end
def spHanded : Sp := fun vs H Q _ => ∃ (a l R : Addr) (n : Nat) (refs : List V) (rows : List (List V)), vs = [.ref a, .ref R] ∧ StreamAt H a l n ∧ n ≤ 5000 ∧ H R = some (.lst refs) ∧ R ≠ a ∧ R ≠ l ∧ Ea H (TLx [a, l]) refs rows ∧ rows.length ≤ 60 ∧
  ∀ (G : Addr) (refs' : List V) (n' : Nat) (H' : Hp), (H' G = some (.lst refs') ∨ H' G = some (.tup refs')) → Ea H' (TLx [a, l, R, G]) refs' rows → H G = none → StreamAt H' a l n' → n' ≤ n + 70 → Keep a l H H' → Q (.ref G) H'
section
variable {P : Program} {w : World} {K : PySem.W.Frag} {mg : Str → Option Value} {base : Heap} {C : Addr}
theorem scHanded : FnScope ["_law_stream", "_law_rows", "_law_some", "_law_row"] ["_law_stream", "_law_rows"] (defScope sHanded) := ⟨rfl, rfl, rfl, by decide +kernel, rfl, by decide +kernel, by decide +kernel⟩
theorem ok_handed {f g : Addr} {fd gd : FuncData} (F : Fun K "_law_m_handed" "_law_m_handed" sHanded f fd) (T : Txt K mg) (D : Df K mg "_law_draw" sDraw g gd ["_law_stream", "_law_many"]) : FnOk P w K mg base CX0 2 f fd ["_law_stream", "_law_rows"] spHanded := by
  have G : FnOk P w K mg base CX0 1 g gd ["_law_stream", "_law_many"] spDraw := ok_draw D.F T
  refine F.ok scHanded (fun vs H Q E h => ?_) (fun cdv A outer s H vs Q E hr h => ?_)
  · obtain ⟨a, l, R, _, _, _, rfl, _⟩ := h
    rfl
  · obtain ⟨a, l, R, n, refs, rows, rfl, S0, hn, hR, Ra, Rl, hE, h60, kk⟩ := h
    have e24 := @sm48
    have hlr : refs.length = rows.length := hE.1
    refine ⟨_, pss_cons (ps_setLc (i := 2) (own := [("_law_row", 3)]) (g := gName 3) (tt := tYes) (by rfl) scHanded.nd rfl rfl (sw_true rfl rfl rfl (by decide +kernel)) (pi_list (pv 1)) (blkOk_by (N := ["_law_stream", "_law_rows", "_law_some", "_law_row"]) (sc := defScope sHanded) (by decide +kernel))
          (fun _ _ _ _ _ => pg_name (i := 3) scHanded.nd rfl (Or.inl rfl)) (fun _ _ _ _ _ => pts_nil)
          (fun _ _ _ _ _ => pe_ifExp (pt_cmpR op_eq (pe_call G hr rfl D.M D.F.kp D.B .nil pass0 (pa_cons (pv 0) (pa_cons pe_int pa_nil))) pe_int (nomark _)) (pe_callTy (call_listK (K := K) rfl) (by rfl) T.list_ boot_list' (pa_cons (pv 3) pa_nil)) (pe_callTy (call_tupleK (K := K) rfl) (by rfl) T.tup_ boot_tuple' (pa_cons (pv 3) pa_nil))))
      (pss_one (ps_ret (pe_ifExp (pt_cmpR op_eq (pe_call G hr rfl D.M D.F.kp D.B .nil pass0 (pa_cons (pv 0) (pa_cons pe_int pa_nil))) pe_int (nomark _)) (pv 2) (pe_callTy call_tuple_of (by rfl) T.tup_ boot_tuple' (pa_cons (pv 2) pa_nil))))), ?_⟩
    refine ⟨_, rfl, R, rfl, ⟨_, SqL.of hR⟩, fun Dd hD => ?_⟩
    obtain ⟨Da, Dl⟩ := S0.ne hD
    refine lc_list (K := K) (a := R) (xs := refs) (fun i H' => StreamAt H' a l (n + i) ∧ Keep a l H H' ∧ ∃ acc, H' Dd = some (.lst acc) ∧ Ea H' (TLx [a, l, R, Dd]) acc (rows.take i)) ?_ ?_ ?_ ?_
    · exact ⟨S0.same (new_ hD), Keep.of (new_ hD), [], upd_same, by rw [List.take_zero]; exact Ea.nil⟩
    · exact fun i H' _ q => SqL.of (q.2.1 _ _ Ra Rl hR)
    · rintro i x H1 hx ⟨S1, kp1, acc, hd, he⟩
      obtain ⟨c, r, rfl, hr', hc⟩ := hE.at_ hx
      have hi : i < rows.length := (List.getElem?_eq_some_iff.mp hr').1
      have hal : acc.length < sizeLine := by
        rw [he.1, List.length_take]
        exact Nat.lt_of_le_of_lt (Nat.le_trans (Nat.min_le_left _ _) (Nat.le_of_lt hi)) (Nat.lt_of_le_of_lt h60 (by decide))
      refine ⟨rfl, ?_⟩
      dsimp only [tYes]
      rw [if_pos rfl]
      refine ⟨_, rfl, a, l, _, _, rfl, S1, by omega, by decide, e24 (by decide) (by decide), fun d H2 d0 d1 S2 kp2 => ⟨rfl, _, rfl, ?_⟩⟩
      have hd2 := kp2 _ _ Da Dl hd
      have hc2 : TLx [a, l] H2 c r := (hc.keep S0 (by simp) (by simp) kp1).keep S1 (by simp) (by simp) kp2
      have he2 : Ea H2 (TLx [a, l, R, Dd]) acc (rows.take i) := he.imp fun c' r' q => q.keep S1 (by simp) (by simp) kp2
      have fin : ∀ q H3, Same H2 H3 → TLx [a, l, R, Dd] H3 q r → ∃ acc', H3 Dd = some (.lst acc') ∧ acc'.length < sizeLine ∧
          (StreamAt (upd H3 Dd (.lst (acc' ++ [.ref q]))) a l (n + (i + 1)) ∧ Keep a l H (upd H3 Dd (.lst (acc' ++ [.ref q]))) ∧ ∃ acc2, (upd H3 Dd (.lst (acc' ++ [.ref q]))) Dd = some (.lst acc2) ∧ Ea (upd H3 Dd (.lst (acc' ++ [.ref q]))) (TLx [a, l, R, Dd]) acc2 (rows.take (i + 1))) := by
        intro q H3 s3 hq
        have hd3 := s3 _ _ hd2
        refine ⟨acc, hd3, hal, (S2.same s3).lst hd3 Da Dl, ?_, acc ++ [.ref q], upd_same, ?_⟩
        · intro c' o ca cl e
          rw [upd_ne (ne_of_none e hD)]
          exact s3 _ _ (kp2 _ _ ca cl (kp1 _ _ ca cl e))
        · rw [take_succ' hr']
          exact Ea.push (he2.imp fun c' r' z => (z.same s3).lst (by simp) hd3) (hq.lst (by simp) hd3)
      have new3 : ∀ p, H2 p = none → p ∉ [a, l, R, Dd] := by
        intro p hp
        obtain ⟨pa, pl⟩ := S2.ne hp
        have pD : p ≠ Dd := (ne_of_none hd2 hp).symm
        have pR : p ≠ R := (ne_of_none (kp2 _ _ Ra Rl (kp1 _ _ Ra Rl hR)) hp).symm
        simp [pa, pl, pD, pR]
      refine ifD_2 (fun _ => ?_) (fun _ => ?_)
      · rcases hc2 with hc2 | ⟨nc, hc2⟩
        · exact ⟨_, rfl, c, _, rfl, .inr (SqT.of hc2), fun p hp => fin p _ (new_ hp) (.inr ⟨new3 p hp, upd_same⟩)⟩
        · exact ⟨_, rfl, c, _, rfl, .inl (SqL.of hc2), fun p hp => fin p _ (new_ hp) (.inr ⟨new3 p hp, upd_same⟩)⟩
      · rcases hc2 with hc2 | ⟨nc, hc2⟩
        · exact ⟨_, rfl, c, _, rfl, .inr ⟨SqT.of hc2, fin c _ (fun _ _ e => e) (.inl hc2)⟩⟩
        · exact ⟨_, rfl, c, _, rfl, .inl ⟨SqL.of hc2, fun p hp => fin p _ (new_ hp) (.inl upd_same)⟩⟩
    · rintro H1 ⟨S1, kp1, acc, hd, he⟩
      rw [hlr] at S1
      rw [hlr, List.take_length] at he
      refine ⟨_, rfl, a, l, _, _, rfl, S1, by omega, by decide, e24 (by decide) (by decide), fun r H2 r0 r1 S2 kp2 => ⟨rfl, _, rfl, ?_⟩⟩
      have hd2 := kp2 _ _ Da Dl hd
      have he2 : Ea H2 (TLx [a, l, R, Dd]) acc rows := he.imp fun c' r' q => q.keep S1 (by simp) (by simp) kp2
      refine ifD_2 (fun _ => ?_) (fun _ => ?_)
      · exact ⟨_, rfl, kk Dd acc _ H2 (.inl hd2) he2 hD S2 (by omega) (kp1.trans kp2)⟩
      · refine ⟨_, rfl, Dd, _, rfl, .inl ⟨SqL.of hd2, fun p hp => ?_⟩⟩
        refine kk p acc _ _ (.inr upd_same) (he2.imp fun c' r' q => ?_) ?_ (S2.same (new_ hp)) (by omega) ((kp1.trans kp2).trans (Keep.of (new_ hp)))
        · rcases q with q | ⟨nn, q⟩
          · exact .inl (new_ hp _ _ q)
          · refine .inr ⟨fun z => ?_, new_ hp _ _ q⟩
            simp only [List.mem_cons, List.not_mem_nil, or_false] at nn z
            have : c' ≠ p := ne_of_none q hp
            rcases z with z | z | z | z
            · exact nn (.inl z)
            · exact nn (.inr (.inl z))
            · exact nn (.inr (.inr (.inl z)))
            · exact this z
        · obtain ⟨pa, pl⟩ := S2.ne hp
          exact keep_noneH (kp1.trans kp2) pa pl hp
end
end PA

set_option maxHeartbeats 4000000
namespace PA
open PySem L2 RZ
open C8 (pss_cut tCut)
open TS (Ln EOk LOk GoodL)
theorem Keep.new {a l : Addr} {H H' : Hp} {p : Addr} {o : HO} (k : Keep a l H H') (hp : H' p = none) : Keep a l H (upd H' p o) := k.trans (Keep.of (new_ hp))
theorem Keep.none {a l : Addr} {H H' : Hp} {p : Addr} (k : Keep a l H H') (pa : p ≠ a) (pl : p ≠ l) (h : H' p = Option.none) : H p = Option.none := by
  cases e : H p with
  | none => rfl
  | some o => rw [k p o pa pl e] at h; cases h
theorem TupOf.kp {α : Type} {f : α → List V} {H H' : Hp} {a l c : Addr} {n : Nat} {r : α} (q : TupOf f H c r) (S : StreamAt H a l n) (k : Keep a l H H') : TupOf f H' c r := by
  obtain ⟨ne, ns, x, z, h1, h2, _⟩ := S
  exact k _ _ (ne_of (H := H) q h1 (by intro z; cases z)) (ne_of (H := H) q h2 (by intro z; cases z)) q
theorem EaKp {α : Type} {f : α → List V} {H H' : Hp} {a l : Addr} {n : Nat} {xs : List V} {ds : List α} (e : Ea H (TupOf f) xs ds) (S : StreamAt H a l n) (k : Keep a l H H') : Ea H' (TupOf f) xs ds := e.imp fun c r q => TupOf.kp (f := f) q S k
theorem keep_upd {a l D : Addr} {H H' : Hp} {o : HO} (k : Keep a l H H') (hD : H D = Option.none) : Keep a l H (upd H' D o) := fun c u ca cl e => by
  rw [upd_ne (ne_of_none e hD)]
  exact k c u ca cl e
theorem sm4 {z : Int} (h1 : 1 ≤ z) (h2 : z ≤ 1000) : Sm 9000 z := by
  refine sm9000 (n := 10) ?_ (by decide)
  have e : (2 : Nat) ^ 10 = 1024 := by decide
  show z.natAbs < 2 ^ 10
  rw [e]
  omega
def spEntry : Sp := fun vs H Q _ => ∃ (a l : Addr) (n size : Nat), vs = [.ref a, .int (size : Int)] ∧ StreamAt H a l n ∧ n ≤ 50000 ∧ 1 ≤ size ∧ size ≤ 48 ∧
  ∀ (o : Option Nat) (n' : Nat) (H' : Hp), EOk size o → StreamAt H' a l n' → n' ≤ n + 2 → Keep a l H H' → Q (ev o) H'
def spLines : Sp := fun vs H Q _ => ∃ (a l : Addr) (n : Nat) (most : Int), vs = [.ref a, .int most] ∧ StreamAt H a l n ∧ n ≤ 40000 ∧ 1 ≤ most ∧ most ≤ 48 ∧
  ∀ (L : Addr) (refs : List V) (ls : List Ln) (n' : Nat) (H' : Hp), H' L = some (.lst refs) → H L = none → L ≠ a → L ≠ l → Ea H' isLn refs ls → GoodL ls → StreamAt H' a l n' → n' ≤ n + 200 → Keep a l H H' → Q (.ref L) H'
section
variable {P : Program} {w : World} {K : PySem.W.Frag} {mg : Str → Option Value} {base : Heap} {C : Addr}
theorem scEntry : FnScope ["_law_stream", "_law_size"] ["_law_stream", "_law_size"] (defScope sEntry) := ⟨rfl, rfl, rfl, by decide +kernel, rfl, by decide +kernel, by decide +kernel⟩
theorem ok_entry {f g : Addr} {fd gd : FuncData} (F : Fun K "_law_m_entry" "_law_m_entry" sEntry f fd) (T : Txt K mg) (D : Df K mg "_law_draw" sDraw g gd ["_law_stream", "_law_many"]) : FnOk P w K mg base CX0 2 f fd ["_law_stream", "_law_size"] spEntry := by
  have G : FnOk P w K mg base CX0 1 g gd ["_law_stream", "_law_many"] spDraw := ok_draw D.F T
  refine F.ok scEntry (fun vs H Q E h => ?_) (fun cdv A outer s H vs Q E hr h => ?_)
  · obtain ⟨a, l, _, _, rfl, _⟩ := h
    rfl
  · obtain ⟨a, l, n, size, rfl, S0, hn, h1, h48, kk⟩ := h
    refine ⟨_, pss_one (ps_ret (pe_ifExp (pt_cmpR op_eq (pe_call G hr rfl D.M D.F.kp D.B .nil pass0 (pa_cons (pv 0) (pa_cons pe_int pa_nil))) pe_int (nomark _)) pe_non (pe_call G hr rfl D.M D.F.kp D.B .nil pass0 (pa_cons (pv 0) (pa_cons (pv 1) pa_nil))))), ?_⟩
    refine ⟨_, rfl, a, l, n, 4, rfl, S0, by omega, by decide, sm4 (by decide) (by decide), fun r H1 r0 r1 S1 k1 => ⟨rfl, _, rfl, ifD_2 (fun _ => ?_) (fun _ => ?_)⟩⟩
    · exact kk none _ H1 (fun a h => by cases h) S1 (by omega) k1
    · refine ⟨_, rfl, _, rfl, a, l, _, _, rfl, S1, by omega, by omega, sm4 (by omega) (by omega), fun r2 H2 r20 r21 S2 k2 => ?_⟩
      have := kk (some r2.toNat) _ H2 (fun a h => by cases h; omega) S2 (by omega) (k1.trans k2)
      rw [show ev (some r2.toNat) = V.int r2 from congrArg V.int (Int.toNat_of_nonneg r20)] at this
      exact this
theorem scLines : FnScope ["_law_stream", "_law_most", "_law_size", "_law_k"] ["_law_stream", "_law_most"] (defScope sLines) := ⟨rfl, rfl, rfl, by decide +kernel, rfl, by decide +kernel, by decide +kernel⟩
theorem ok_lines {f g g2 : Addr} {fd gd gd2 : FuncData} (F : Fun K "_law_m_lines" "_law_m_lines" sLines f fd) (T : Txt K mg) (D : Df K mg "_law_draw" sDraw g gd ["_law_stream", "_law_many"]) (D2 : Df K mg "_law_m_entry" sEntry g2 gd2 ["_law_stream", "_law_size"]) : FnOk P w K mg base CX0 3 f fd ["_law_stream", "_law_most"] spLines := by
  have G : FnOk P w K mg base CX0 1 g gd ["_law_stream", "_law_many"] spDraw := ok_draw D.F T
  have G2 : FnOk P w K mg base CX0 2 g2 gd2 ["_law_stream", "_law_size"] spEntry := ok_entry D2.F T D
  refine F.ok scLines (fun vs H Q E h => ?_) (fun cdv A outer s H vs Q E hr h => ?_)
  · obtain ⟨a, l, _, _, rfl, _⟩ := h
    rfl
  · obtain ⟨a, l, n, most, rfl, S0, hn, h1, h48, kk⟩ := h
    have hr1 : Room 1 _ := hr.mono (by decide)
    refine ⟨_, pss_cons (ps_set (i := 2) scLines.nd rfl (Or.inr rfl) (pe_op op_add pe_int (pe_call G hr1 rfl D.M D.F.kp D.B .nil pass0 (pa_cons (pv 0) (pa_cons (pv 1) pa_nil)))))
      (pss_one (ps_ret (pe_lc (own := [("_law_k", 3)]) (g := gName 3) (tt := tYes) (by rfl) scLines.nd (pi_range1 (by rfl) T.range_ (pa_cons (pv 2) pa_nil)) (blkOk_by (N := ["_law_stream", "_law_most", "_law_size", "_law_k"]) (sc := defScope sLines) (by decide +kernel))
          (fun _ _ _ _ _ => pg_name (i := 3) scLines.nd rfl (Or.inl rfl)) (fun _ _ _ _ _ => pts_nil)
          (fun _ _ _ _ _ => pe_tup (pa_cons (pe_call G2 hr rfl D2.M D2.F.kp D2.B .nil pass0 (pa_cons (pv 0) (pa_cons (pv 2) pa_nil))) (pa_cons (pe_call G2 hr rfl D2.M D2.F.kp D2.B .nil pass0 (pa_cons (pv 0) (pa_cons (pv 2) pa_nil))) pa_nil)))))), ?_⟩
    refine ⟨_, rfl, _, rfl, a, l, n, most, rfl, S0, by omega, by omega, sm4 (by omega) (by omega), fun r H1 r0 r1 S1 k1 => ⟨_, _, rfl, rfl, ?_⟩⟩
    obtain ⟨sz, hsz⟩ : ∃ sz : Nat, 1 + r = (sz : Int) := ⟨(1 + r).toNat, (Int.toNat_of_nonneg (by omega)).symm⟩
    show gName 2 (V.int (1 + r)) _ _ _
    rw [hsz]
    have sz1 : 1 ≤ sz := by omega
    have sz48 : sz ≤ 48 := by omega
    refine ⟨_, rfl, (sz : Int), rfl, by omega, by omega, fun Dd hD => ?_⟩
    obtain ⟨Da, Dl⟩ := S1.ne hD
    refine lc_range (n := sz) (fun i H' => ∃ n', n' ≤ n + 1 + 4 * i ∧ StreamAt H' a l n' ∧ Keep a l H1 H' ∧ ∃ acc ds, H' Dd = some (.lst acc) ∧ Ea H' isLn acc ds ∧ ds.length = i ∧ ∀ d ∈ ds, LOk sz d) ?_ ?_ ?_
    · exact ⟨n + 1, by omega, S1.same (new_ hD), Keep.of (new_ hD), [], [], upd_same, Ea.nil, rfl, fun d hd => by cases hd⟩
    · rintro i H2 hi ⟨n', hn', S2, k2, acc, ds, hd, he, hl, ho⟩
      refine ⟨rfl, ?_⟩
      dsimp only [tYes]
      rw [if_pos rfl]
      refine ⟨_, rfl, _, rfl, a, l, n', sz, rfl, S2, by omega, sz1, sz48, fun o1 n3 H3 e1 S3 hn3 k3 => ?_⟩
      refine ⟨_, rfl, _, rfl, a, l, n3, sz, rfl, S3, by omega, sz1, sz48, fun o2 n4 H4 e2 S4 hn4 k4 => ⟨by show 2 ≤ sizeLine; decide, fun t ht => ?_⟩⟩
      have k34 := k3.trans k4
      have hd4 := k34 _ _ Da Dl hd
      have he4 := EaKp he S2 k34
      have st := new_ (o := .tup [ev o1, ev o2]) ht
      have hd5 := st _ _ hd4
      refine ⟨acc, hd5, ?_, n4, by omega, (S4.same st).lst hd5 Da Dl, keep_upd ((k2.trans k34).trans (Keep.of st)) hD, acc ++ [.ref t], ds ++ [(o1, o2)], upd_same, ?_, ?_, ?_⟩
      · rw [he.1, hl]
        exact Nat.lt_of_lt_of_le hi (Nat.le_trans sz48 (by decide))
      · exact ((he4.same st).imp fun c r q => TupOf.lst q hd5).push (TupOf.lst (f := lv) (r := (o1, o2)) upd_same hd5)
      · rw [List.length_append, hl]
        rfl
      · intro d hd'
        rcases List.mem_append.mp hd' with hd' | hd'
        · exact ho d hd'
        · cases List.mem_singleton.mp hd'
          exact ⟨e1, e2⟩
    · rintro H2 ⟨n', hn', S2, k2, acc, ds, hd, he, hl, ho⟩
      refine kk Dd acc ds n' H2 hd (k1.none Da Dl hD) Da Dl he ⟨by omega, by omega, ?_⟩ S2 (by omega) (k1.trans k2)
      rw [hl]
      exact ho
end
end PA

set_option maxHeartbeats 8000000
namespace L2
open PySem PySem.Spec PyProof.Rows
theorem pss_ex {Y : Cx} {ss : List Stmt} {ts : TS} (h : ∀ D σ H, ts D σ H → ∃ t', PSs Y ss t' ∧ t' D σ H) : PSs Y ss ts :=
  ⟨fun pins s σ H D I q => by
    obtain ⟨t', p, q'⟩ := h D σ H q
    exact p.run pins s σ H D I q'⟩
theorem passes_len {X : Cx} {W : WX} {n : Nat} (tk : Takes X W) (hn : X.N.length = n) : Passes (CX X.prog X.w) X (fun cls d H => ∀ σ : L2.St, σ.length = n → W cls d σ H) := by
  intro pins σ H s e s' I h
  obtain ⟨a, B, H', cls, d, h1, h2, h3, h4, h5, h6, h7, h8⟩ := h
  exact passAt tk σ pins H s e s' I ⟨a, B, H', cls, d, h1, h2, h3, h4, h5, h6, h7, h8 σ (I.len.trans hn)⟩
end L2
namespace PA
open PySem L2 RZ
open C8 (pss_cut tCut)
open TS (Ln EOk LOk GoodL)
structure TxtE (K : PySem.W.Frag) (mg : Str → Option Value) (X c1 : Addr) : Prop where
  E : ExcC K X
  kx : PySem.W.kitOne K (.ref X) (.ref X) = some true
  g1 : mg "InvalidRule" = some (.ref c1)
  k1 : PySem.W.kitOne K (.ref X) (.ref c1) = some false
def LOf (N : List Addr) (Z : Hp) (H : Hp) (c : Addr) (r : List V) : Prop := H c = some (.lst r) ∧ c ∉ N ∧ Z c = none
def FBad (a l : Addr) (H : Hp) (B : Addr) : Prop := ∃ refs rows, H B = some (.lst refs) ∧ Ea H (TLx [a, l]) refs rows ∧ rows.length ≤ 60 ∧ (∀ r ∈ rows, ∀ x ∈ r, Cell H x) ∧ tabOk rows = false
def FGood (a l : Addr) (ls : List Ln) (Z H : Hp) (B : Addr) : Prop := ∃ refs, H B = some (.lst refs) ∧ Ea H (LOf [a, l, B] Z) refs (ls.map lv)
structure FMid (a l : Addr) (n : Nat) (H0 : Hp) (ls : List Ln) (kd j : Int) (H : Hp) (B : Addr) : Prop where
  na : B ≠ a
  nl : B ≠ l
  nw : H0 B = none
  st : ∃ m : Nat, (m : Int) ≤ n + 2 + 2 * j ∧ StreamAt H a l m
  kp : Keep a l H0 H
  or : (kd < j ∧ FBad a l H B) ∨ (j ≤ kd ∧ FGood a l ls H0 H B)
theorem FMid.next {a l : Addr} {n : Nat} {H0 H : Hp} {ls : List Ln} {kd j : Int} {B : Addr} (m : FMid a l n H0 ls kd j H B) (h : kd ≠ j) : FMid a l n H0 ls kd (j + 1) H B :=
  ⟨m.na, m.nl, m.nw, (by obtain ⟨x, h1, h2⟩ := m.st; exact ⟨x, by omega, h2⟩), m.kp, m.or.imp (fun q => ⟨by omega, q.2⟩) fun q => ⟨by omega, q.2⟩⟩
theorem ea_pick {P : Hp → Addr → List V → Prop} {H : Hp} : ∀ {refs : List V}, (∀ v ∈ refs, ∃ c r, v = .ref c ∧ P H c r) → ∃ rows, Ea H P refs rows
  | [], _ => ⟨[], Ea.nil⟩
  | v :: vs, h => by
    obtain ⟨rows, e⟩ := ea_pick (refs := vs) fun x hx => h x (List.mem_cons_of_mem _ hx)
    obtain ⟨c, r, rfl, q⟩ := h v (by simp)
    exact ⟨r :: rows, (Ea.one q).append e⟩
theorem tab_no {rows : List (List V)} {r : List V} (h : r ∈ rows) (b : rowOk rows.length r = false) : tabOk rows = false := by
  cases hh : tabOk rows with
  | false => rfl
  | true =>
    unfold tabOk at hh
    rw [Bool.and_eq_true, List.all_eq_true] at hh
    rw [hh.2 r h] at b
    cases b
theorem FGood.keep {a l B : Addr} {ls : List Ln} {Z H H' : Hp} (g : FGood a l ls Z H B) (na : B ≠ a) (nl : B ≠ l) (k : Keep a l H H') : FGood a l ls Z H' B := by
  obtain ⟨refs, h1, h2⟩ := g
  exact ⟨refs, k _ _ na nl h1, h2.imp fun c r z => ⟨k _ _ (fun e => z.2.1 (by rw [e]; simp)) (fun e => z.2.1 (by rw [e]; simp)) z.1, z.2⟩⟩
theorem FGood.same {a l B : Addr} {ls : List Ln} {Z H H' : Hp} (g : FGood a l ls Z H B) (s : Same H H') : FGood a l ls Z H' B := by
  obtain ⟨refs, h1, h2⟩ := g
  exact ⟨refs, s _ _ h1, h2.imp fun c r z => ⟨s _ _ z.1, z.2⟩⟩
/-- a row of cells at a list that is not the stream -/
def LCell (a l : Addr) (H : Hp) (c : Addr) (r : List V) : Prop := H c = some (.lst r) ∧ c ∉ [a, l] ∧ ∀ x ∈ r, Cell H x
theorem FBad.of {a l B : Addr} {H : Hp} {refs : List V} {m k : Nat} {q : Addr} {r : List V} (hB : H B = some (.lst refs)) (hm : refs.length = m) (m60 : m ≤ 60) (h : ∀ v ∈ refs, ∃ c r, v = .ref c ∧ LCell a l H c r) (hk : refs[k]? = some (.ref q)) (hq : H q = some (.lst r)) (hr : rowOk m r = false) : FBad a l H B := by
  obtain ⟨rows, e⟩ := ea_pick h
  have hl : rows.length = m := by rw [← e.1, hm]
  refine ⟨refs, rows, hB, e.imp fun c r z => .inr ⟨z.2.1, z.1⟩, by omega, fun r hr x hx => ?_, ?_⟩
  · obtain ⟨i, hi⟩ := List.getElem?_of_mem hr
    obtain ⟨c, _, _, _, z⟩ := e.get hi
    exact z x hx
  · obtain ⟨c, r', e1, e2, z, _⟩ := e.at_ hk
    cases e1
    rw [hq] at z
    cases z
    exact tab_no (List.mem_of_getElem? e2) (by rw [hl]; exact hr)
theorem row_set {n : Nat} {l : Ln} {j : Nat} {x : V} (hj : j < 2) (hx : entOk n x = false) : rowOk n ((lv l).set j x) = false := by
  have e : ∃ y, ((lv l).set j x).all (entOk n) = false ∧ y = j := by
    rcases j with _ | _ | j
    · refine ⟨_, ?_, rfl⟩
      show (entOk n x && (entOk n (ev l.2) && true)) = false
      rw [hx]; rfl
    · refine ⟨_, ?_, rfl⟩
      show (entOk n (ev l.1) && (entOk n x && true)) = false
      rw [hx]; simp
    · omega
  obtain ⟨_, e, _⟩ := e
  unfold rowOk
  rw [e, Bool.and_false]
theorem row_len {n : Nat} {r : List V} (h : r.length ≠ 2) : rowOk n r = false := by
  unfold rowOk
  rw [decide_eq_false h]
  rfl
def spFault : Sp := fun vs H Q _ => ∃ (a l L : Addr) (n : Nat) (refs : List V) (ls : List Ln), vs = [.ref a, .ref L] ∧ StreamAt H a l n ∧ n ≤ 2000 ∧ H L = some (.lst refs) ∧ L ≠ a ∧ L ≠ l ∧ Ea H isLn refs ls ∧ GoodL ls ∧
  ∀ (n' : Nat) (H' : Hp), StreamAt H' a l n' → n' ≤ n + 100 → Keep a l H H' → Q (.bl true) H'
abbrev NFlt : List Str := ["_law_stream", "_law_lines", "_law_bad", "_law_kind", "_law_at", "e", "_law_row"]
section
variable {P : Program} {w : World} {K : PySem.W.Frag} {mg : Str → Option Value} {base : Heap} {C X PE_ Fo fI g1 g2 g3 g4 fS s1 r1 c1 : Addr} {dI gd1 gd2 gd3 gd4 dS sd1 rd1 : FuncData}
theorem scFlt : FnScope NFlt ["_law_stream", "_law_lines"] (defScope sFault) := ⟨rfl, rfl, rfl, by decide +kernel, rfl, by decide +kernel, by decide +kernel⟩
theorem ok_fault {f h1 h2 h3 : Addr} {fd hd1 hd2 hd3 : FuncData} (F : Fun K "_law_fault" "_law_fault" sFault f fd) (L : LibR K mg C X PE_ Fo fI g1 g2 g3 g4 fS s1 r1 dI gd1 gd2 gd3 gd4 dS sd1 rd1) (TE : TxtE K mg X c1)
    (D1 : Df K mg "_law_draw" sDraw h1 hd1 ["_law_stream", "_law_many"]) (D2 : Df K mg "_law_pick" sPick h2 hd2 ["_law_stream", "_law_some"]) (D3 : Df K mg "_law_m_handed" sHanded h3 hd3 ["_law_stream", "_law_rows"]) : FnOk P w K mg base CX0 8 f fd ["_law_stream", "_law_lines"] spFault := by
  have T := L.T
  have TX := L.TX
  have G1 : FnOk P w K mg base CX0 1 h1 hd1 ["_law_stream", "_law_many"] spDraw := ok_draw D1.F T
  have G2 : FnOk P w K mg base CX0 2 h2 hd2 ["_law_stream", "_law_some"] spPick := ok_pick D2.F T D1
  have G3 : FnOk P w K mg base CX0 2 h3 hd3 ["_law_stream", "_law_rows"] spHanded := ok_handed D3.F T D1
  have GI : FnOk P w K mg base (L2.CX P w) 5 fI dI ["self", "rows"] (spInit C X) := ok_init L.I T L.TC TX L.D1 L.D2 L.D3 L.D4
  refine F.ok scFlt (fun vs H Q E h => ?_) (fun cdv A outer s H vs Q E hr h => ?_)
  · obtain ⟨a, l, LL, n, _, _, rfl, _⟩ := h
    rfl
  · obtain ⟨a, l, LL, n, refs, ls, rfl, S0, hn, hL, La, Ll, hE, gd, kk⟩ := h
    have hr1 : Room 1 _ := hr.mono (by decide)
    have hr2 : Room 2 _ := hr.mono (by decide)
    refine ⟨_, pss_cut (ps_par (i := 2) (j := 3) (by rfl) scFlt.nd rfl rfl (by decide) rfl rfl (pa_cons (pe_lc (own := [("_law_row", 6)]) (g := gName 6) (tt := tYes) (by rfl) scFlt.nd (pi_list (pv 1)) (blkOk_by (N := NFlt) (sc := defScope sFault) (by decide +kernel))
            (fun _ _ _ _ _ => pg_name (i := 6) scFlt.nd rfl (Or.inl rfl)) (fun _ _ _ _ _ => pts_nil)
            (fun _ _ _ _ _ => pe_callTy (call_listK (K := K) rfl) (by rfl) T.list_ boot_list' (pa_cons (pv 6) pa_nil))) (pa_cons (pe_call G1 hr1 rfl D1.M D1.F.kp D1.B .nil pass0 (pa_cons (pv 0) (pa_cons pe_int pa_nil))) pa_nil)) (by rfl))
      (pss_cons (ps_set (i := 4) scFlt.nd rfl (Or.inl rfl) (pe_call G1 hr1 rfl D1.M D1.F.kp D1.B .nil pass0 (pa_cons (pv 0) (pa_cons (pe_callB call_len_seq (by rfl) T.len_ PySem.boot_len (pa_cons (pv 2) pa_nil)) pa_nil))))
      (pss_cut (ps_if (pt_cmpR op_eq (pv 3) pe_int (nomark _)) (pss_one (ps_set (i := 2) scFlt.nd rfl (Or.inl rfl) (pe_lst pa_nil))) pss_nil)
      (pss_cut (ps_if (pt_cmpR op_eq (pv 3) pe_int (nomark _)) (pss_one (ps_set (i := 2) scFlt.nd rfl (Or.inl rfl) (pe_op op_rep (pe_lst (pa_cons (pe_tup (pa_cons pe_non (pa_cons pe_int pa_nil))) pa_nil)) (pe_op op_add pe_int (pe_call G1 hr1 rfl D1.M D1.F.kp D1.B .nil pass0 (pa_cons (pv 0) (pa_cons pe_int pa_nil))))))) pss_nil)
      (pss_cut (ps_if (pt_cmpR op_eq (pv 3) pe_int (nomark _)) (pss_one (ps_asg (pe_slice sl_list (pe_op op_cat (pe_ix ix_list (pv 2) (pv 4) (fun _ _ => rfl)) (pe_lst (pa_cons pe_int pa_nil))) po_none (po_some (pe_ix ix_list (pe_lst (pa_cons pe_int (pa_cons pe_int (pa_cons pe_int pa_nil)))) (pe_call G1 hr1 rfl D1.M D1.F.kp D1.B .nil pass0 (pa_cons (pv 0) (pa_cons pe_int pa_nil))) (fun _ _ => rfl)))) (pg_sub (pv 2) (pv 4) set_list))) pss_nil)
      (pss_cut (ps_if (pt_cmpR op_gt (pv 3) pe_int (nomark _)) (pss_one (ps_asg (pe_call G2 hr2 rfl D2.M D2.F.kp D2.B .nil pass0 (pa_cons (pv 0) (pa_cons (pe_lst (pa_cons (pe_callB call_len_seq (by rfl) T.len_ PySem.boot_len (pa_cons (pv 2) pa_nil)) (pa_cons (pe_un un_neg pe_int) (pa_cons pe_bl (pa_cons pe_bl (pa_cons pe_str (pa_cons pe_str (pa_cons (pe_tup (pa_cons pe_int pa_nil)) (pa_cons (pe_op op_pow pe_int pe_int) pa_nil))))))))) pa_nil))) (pg_sub (pe_ix ix_list (pv 2) (pv 4) (fun _ _ => rfl)) (pe_call G1 hr1 rfl D1.M D1.F.kp D1.B .nil pass0 (pa_cons (pv 0) (pa_cons pe_int pa_nil))) set_list))) pss_nil)
      (pss_cons (ps_try_as (i := 5) (tb := fun W => tDrop (tMake C (spInit C X) [] (fun cls d H => ∀ σ : L2.St, σ.length = 7 → W cls d σ H) (tCons (tCall spHanded [] E0 (tCons (tVar 0) (tCons (tVar 2) tNil))) tNil)))
        (ts := fun a cls d D σ H => cls = .ref X ∧ d = none ∧ σ = [σ[0]!, σ[1]!, σ[2]!, σ[3]!, σ[4]!, some (.ref a), σ[6]!] ∧ ∀ H', Same H H' → D.rt (.bl true) H') (Wout := fun _ _ _ _ => False) rfl rfl scFlt.nd rfl rfl ⟨by rfl, by decide, .inl TX.gP⟩ takes0
      (fun W pn xe tk _ => pss_one (ps_expr (by exact (pe_make L.M GI (hr.mono (by decide)) (by rfl) L.TC.mgC L.bI .nil (passes_len tk rfl) (pa_cons (pe_call G3 hr2 (by rfl) D3.M D3.F.kp D3.B .nil pass0 (pa_cons (pv 0) (pa_cons (pv 2) pa_nil))) pa_nil)))))
      (fun a oe cls d pn hz hf => pss_ex fun D σ H q => ?_)) (pss_one (ps_ret pe_bl)))))))), ?_⟩
    · obtain ⟨rfl, rfl, es, k⟩ := q
      refine ⟨_, pss_one (ps_ret (pe_and (pe_callB (call_isE TE.E hz hf) (by rfl) T.isi boot_isi (pa_cons (pv 5) (pa_cons (pe_glob (v := .ref X) rfl TX.g rfl) pa_nil))) (pe_one (pe_not (pe_callB (call_isE TE.E hz hf) (by rfl) T.isi boot_isi (pa_cons (pv 5) (pa_cons (pe_glob (v := .ref c1) rfl TE.g1 rfl) pa_nil))))))), ?_⟩
      rw [es]
      refine ⟨_, rfl, _, _, _, rfl, fun u hu => hu, TE.kx, _, rfl, iteT ?_⟩
      exact ⟨_, rfl, _, _, _, rfl, fun u hu => hu, TE.k1, _, rfl, k _ fun _ _ e => e⟩
    have h1l := gd.one
    have h48 := gd.most
    have hlr : refs.length = ls.length := hE.1
    refine ⟨fun σ' H' => ∃ B kd, σ' = [some (.ref a), some (.ref LL), some (.ref B), some (.int kd), none, none, none] ∧ 0 ≤ kd ∧ kd < 5 ∧ B ≠ a ∧ B ≠ l ∧ H B = none ∧ StreamAt H' a l (n + 1) ∧ Keep a l H H' ∧ FGood a l ls H H' B, ?_, ?_⟩
    · refine ⟨_, rfl, LL, rfl, ⟨_, SqL.of hL⟩, fun Dd hD => ?_⟩
      obtain ⟨Da, Dl⟩ := S0.ne hD
      refine lc_acc (xs := refs) (walk_l (K := K) (a := LL) (xs := refs)) (by rw [hlr]; exact Nat.le_trans h48 (by decide)) hD (fun H' s' => SqL.of (s' _ _ hL)) (fun i acc H' => Ea H' (LOf [a, l, Dd] H) acc ((ls.map lv).take i)) (fun i acc H' e => by rw [e.1, List.length_take, List.length_map]; omega) (by rw [List.take_zero]; exact Ea.nil) (fun i x H' acc Φ Ψ hi hx sm hd he kf => ?_) fun H1 acc s1 hd he => ?_
      · obtain ⟨c, r, rfl, hr', hc⟩ := hE.at_ hx
        refine ⟨rfl, ?_⟩
        dsimp only [tYes]
        rw [if_pos rfl]
        refine ⟨_, rfl, c, _, rfl, .inr (SqT.of (sm _ _ hc)), fun q hq => ?_⟩
        have sq := new_ (o := .lst (lv r)) hq
        have qa : q ≠ a := (ne_of_none (sm _ _ S0.2.choose_spec.choose_spec.choose_spec.1) hq).symm
        have ql : q ≠ l := (ne_of_none (sm _ _ S0.2.choose_spec.choose_spec.choose_spec.2.1) hq).symm
        have qD : q ≠ Dd := (ne_of_none hd hq).symm
        refine kf _ _ sq (sq _ _ hd) fun H5 h5 b1 b2 => ?_
        rw [take_succ' (show (ls.map lv)[i]? = some (lv r) by rw [List.getElem?_map, hr']; rfl)]
        exact Ea.push (he.imp fun c' r' z => ⟨b1 _ _ (fun e => z.2.1 (by rw [e]; simp)) (sq _ _ z.1), z.2⟩) ⟨b1 _ _ qD upd_same, by simp [qa, ql, qD], sm.none hq⟩
      · rw [hlr, List.take_of_length_le (by rw [List.length_map]; exact Nat.le_refl _)] at he
        refine ⟨_, rfl, a, l, n, 5, rfl, S0.same s1, by omega, by decide, sm48 (by decide) (by decide), fun kd H2 d0 d1 S2 k2 => ⟨_, _, rfl, ?_⟩⟩
        refine ⟨Dd, kd, rfl, d0, d1, Da, Dl, hD, S2, (Keep.of s1).trans k2, acc, k2 _ _ Da Dl hd, he.imp fun c r z => ⟨k2 _ _ (fun e => z.2.1 (by rw [e]; simp)) (fun e => z.2.1 (by rw [e]; simp)) z.1, z.2⟩⟩
    rintro _ H1 ⟨B, kd, rfl, d0, d1, Ba, Bl, Bn, S1, k1, gB⟩
    obtain ⟨rB, hB, hEB⟩ := id gB
    have hBl : rB.length = ls.length := by rw [hEB.1, List.length_map]
    refine ⟨_, rfl, _, rfl, B, _, rfl, .inl (SqL.of hB), a, l, n + 1, _, rfl, S1, by omega, by rw [hBl]; omega, sm48 (by rw [hBl]; omega) (by rw [hBl]; omega), fun at_ H2 a0 a1 S2 k2 => ?_⟩
    rw [hBl] at a1
    obtain ⟨k, rfl⟩ : ∃ k : Nat, at_ = (k : Int) := ⟨at_.toNat, (Int.toNat_of_nonneg a0).symm⟩
    have hk : k < ls.length := by omega
    have m0 : FMid a l n H ls kd 0 H2 B := ⟨Ba, Bl, Bn, ⟨n + 2, by omega, S2⟩, k1.trans k2, .inr ⟨d0, gB.keep Ba Bl k2⟩⟩
    clear gB hB hEB hBl rB S1 S2 k1 k2 Ba Bl Bn
    refine ⟨fun σ' H' => ∃ B, σ' = [some (.ref a), some (.ref LL), some (.ref B), some (.int kd), some (.int (k : Int)), none, none] ∧ FMid a l n H ls kd 1 H' B, ?_, ?_⟩
    · refine ⟨_, rfl, rfl, _, rfl, ifD_2 (fun h => ?_) (fun h => ⟨B, rfl, m0.next fun z => h (by rw [z])⟩)⟩
      have hz : kd = 0 := by injection h
      obtain ⟨m, hm, Sm_⟩ := m0.st
      refine ⟨Nat.zero_le _, fun q hq => ⟨q, rfl, ?_⟩⟩
      obtain ⟨qa, ql⟩ := Sm_.ne hq
      exact ⟨qa, ql, keep_noneH m0.kp qa ql hq, ⟨m, by omega, Sm_.same (new_ hq)⟩, m0.kp.trans (Keep.of (new_ hq)), .inl ⟨by omega, [], [], upd_same, Ea.nil, by decide, (fun r hr => by cases hr), rfl⟩⟩
    clear m0
    rintro _ H3 ⟨B, rfl, m1⟩
    refine ⟨fun σ' H' => ∃ B, σ' = [some (.ref a), some (.ref LL), some (.ref B), some (.int kd), some (.int (k : Int)), none, none] ∧ FMid a l n H ls kd 2 H' B, ?_, ?_⟩
    · refine ⟨_, rfl, rfl, _, rfl, ifD_2 (fun h => ?_) (fun h => ⟨B, rfl, m1.next fun z => h (by rw [z])⟩)⟩
      have hz : kd = 1 := by injection h
      have m1g : FGood a l ls H H3 B := by
        rcases m1.or with q | q
        · omega
        · exact q.2
      obtain ⟨m, hm, Sm_⟩ := m1.st
      refine ⟨by show 2 ≤ sizeLine; decide, fun TT hTT => ⟨by show 1 ≤ sizeLine; decide, fun q hq => ?_⟩⟩
      have s1 := new_ (o := .tup [V.non, V.int 0]) hTT
      have s2 := new_ (o := .lst [V.ref TT]) hq
      have gT := s2 _ _ (upd_same (H := H3) (a := TT) (o := .tup [V.non, V.int 0]))
      have gq : (upd (upd H3 TT (.tup [V.non, V.int 0])) q (.lst [V.ref TT])) q = some (.lst [V.ref TT]) := upd_same
      have S3 := (Sm_.same s1).same s2
      have k3 := m1.kp.trans (Keep.of (s1.trans s2))
      obtain ⟨qa, ql⟩ := (Sm_.same s1).ne hq
      generalize (upd (upd H3 TT (.tup [V.non, V.int 0])) q (.lst [V.ref TT])) = H4 at gT gq S3 k3 ⊢
      refine ⟨_, rfl, a, l, m, 2, rfl, S3, by omega, by decide, sm48 (by decide) (by decide), fun r H5 r0 r1 S5 k5 => ?_⟩
      have gq5 := k5 _ _ qa ql gq
      have gT5 : H5 TT = some (.tup [V.non, V.int 0]) := by
        obtain ⟨_, ns', x', z', w1, w2, _⟩ := id S3
        exact k5 _ _ (ne_of gT w1 (by intro z; cases z)) (ne_of gT w2 (by intro z; cases z)) gT
      obtain ⟨c, hc, c49⟩ : ∃ c : Nat, 49 + r = (c : Int) ∧ 49 ≤ c ∧ c ≤ 50 := ⟨(49 + r).toNat, by omega, by omega, by omega⟩
      refine ⟨_, _, rfl, rfl, q, _, _, rfl, congrArg V.int hc, gq5, by omega, by omega, ?_, fun p hp => ?_⟩
      · rw [Int.toNat_natCast]
        show 1 * c ≤ sizeLine
        exact Nat.le_trans (by omega : 1 * c ≤ 50) (by decide)
      rw [Int.toNat_natCast, List.flatten_replicate_singleton]
      obtain ⟨pa, pl⟩ := S5.ne hp
      have sp := new_ (o := .lst (List.replicate c (V.ref TT))) hp
      refine ⟨p, rfl, pa, pl, keep_noneH (k3.trans k5) pa pl hp, ⟨m + 1, by omega, S5.same sp⟩, (k3.trans k5).trans (Keep.of sp), .inl ⟨by omega, _, List.replicate c [V.non, V.int 0], upd_same, ⟨by simp, fun i x r' h1 h2 => ?_⟩, by rw [List.length_replicate]; omega, fun r' hr' x hx => ?_, ?_⟩⟩
      · have e1 := (List.mem_replicate.mp (List.mem_of_getElem? h1)).2
        have e2 := (List.mem_replicate.mp (List.mem_of_getElem? h2)).2
        exact ⟨TT, e1, .inl (by rw [e2]; exact sp _ _ gT5)⟩
      · rw [(List.mem_replicate.mp hr').2] at hx
        simp only [List.mem_cons, List.not_mem_nil, or_false] at hx
        rcases hx with rfl | rfl
        · exact .non
        · exact .int _
      · unfold tabOk
        rw [List.length_replicate, decide_eq_false (by omega : ¬ c ≤ 48)]
        simp
    clear m1
    rintro _ H4 ⟨B, rfl, m2⟩
    refine ⟨fun σ' H' => ∃ B, σ' = [some (.ref a), some (.ref LL), some (.ref B), some (.int kd), some (.int (k : Int)), none, none] ∧ FMid a l n H ls kd 3 H' B, ?_, ?_⟩
    · refine ⟨_, rfl, rfl, _, rfl, ifD_2 (fun h => ?_) (fun h => ⟨B, rfl, m2.next fun z => h (by rw [z])⟩)⟩
      have hz : kd = 2 := by injection h
      obtain ⟨rB, hB, hEB⟩ : FGood a l ls H H4 B := by
        rcases m2.or with q | q
        · omega
        · exact q.2
      have hBl : rB.length = ls.length := by rw [hEB.1, List.length_map]
      obtain ⟨m, hm, Sm_⟩ := m2.st
      have hlk : (ls.map lv)[k]? = some (lv ls[k]) := by rw [List.getElem?_map, List.getElem?_eq_getElem hk]; rfl
      obtain ⟨c, hck, hc, hcn⟩ := hEB.get hlk
      refine ⟨_, rfl, _, rfl, B, _, _, _, rfl, rfl, SqL.of hB, atI_nat hck, by show 1 ≤ sizeLine; decide, fun q hq => ?_⟩
      have s1 := new_ (o := .lst [V.int 0]) hq
      refine ⟨_, _, _, _, rfl, rfl, s1 _ _ hc, upd_same, by show 3 ≤ sizeLine; decide, fun q2 hq2 => ?_⟩
      have s2 := new_ (o := .lst (lv ls[k] ++ [V.int 0])) hq2
      refine ⟨by show 3 ≤ sizeLine; decide, fun q3 hq3 => ?_⟩
      have s3 := new_ (o := .lst [V.int 0, V.int 1, V.int 3]) hq3
      have s13 := (s1.trans s2).trans s3
      have g2 := s3 _ _ (upd_same (H := upd H4 q (.lst [V.int 0])) (a := q2) (o := .lst (lv ls[k] ++ [V.int 0])))
      have g3 : (upd (upd (upd H4 q (.lst [V.int 0])) q2 (.lst (lv ls[k] ++ [V.int 0]))) q3 (.lst [V.int 0, V.int 1, V.int 3])) q3 = some (.lst [V.int 0, V.int 1, V.int 3]) := upd_same
      have S3 := Sm_.same s13
      have k3 := m2.kp.trans (Keep.of s13)
      obtain ⟨q2a, q2l⟩ := (Sm_.same s1).ne hq2
      obtain ⟨q3a, q3l⟩ := (Sm_.same (s1.trans s2)).ne hq3
      have hB3 := s13 _ _ hB
      have hE3 : Ea _ (LOf [a, l, B] H) rB (ls.map lv) := hEB.imp fun c r z => ⟨s13 _ _ z.1, z.2⟩
      generalize (upd (upd (upd H4 q (.lst [V.int 0])) q2 (.lst (lv ls[k] ++ [V.int 0]))) q3 (.lst [V.int 0, V.int 1, V.int 3])) = H5 at g2 g3 S3 k3 hB3 hE3 ⊢
      refine ⟨_, rfl, a, l, m, 3, rfl, S3, by omega, by decide, sm48 (by decide) (by decide), fun r H6 r0 r1 S6 k6 => ?_⟩
      have hB6 := k6 _ _ m2.na m2.nl hB3
      obtain ⟨v, hv, hv2⟩ : ∃ v : Nat, atI [V.int 0, V.int 1, V.int 3] r = some (.int (v : Int)) ∧ ((lv ls[k] ++ [V.int 0]).take v).length ≠ 2 := by
        have : r = 0 ∨ r = 1 ∨ r = 2 := by omega
        rcases this with rfl | rfl | rfl
        · exact ⟨0, rfl, by show 0 ≠ 2; decide⟩
        · exact ⟨1, rfl, by show 1 ≠ 2; decide⟩
        · exact ⟨3, rfl, by show 3 ≠ 2; decide⟩
      refine ⟨q3, _, _, _, rfl, rfl, SqL.of (k6 _ _ q3a q3l g3), hv, _, rfl, q2, _, rfl, SqL.of (k6 _ _ q2a q2l g2), fun q4 hq4 => ?_⟩
      rw [cut_to]
      have s4 := new_ (o := .lst ((lv ls[k] ++ [V.int 0]).take v)) hq4
      have hB7 := s4 _ _ hB6
      refine ⟨_, rfl, _, rfl, B, _, _, k, rfl, rfl, hB7, Evl.ixN_nat (by rw [hBl]; exact hk), ?_⟩
      obtain ⟨q4a, q4l⟩ := S6.ne hq4
      have nBq : q4 ≠ B := (ne_of_none hB6 hq4).symm
      have cellT : ∀ H' : Hp, ∀ x ∈ (lv ls[k] ++ [V.int 0]).take v, Cell H' x := fun H' x hx => by
        have hx := List.mem_of_mem_take hx
        rcases List.mem_append.mp hx with hx | hx
        · simp only [lv, List.mem_cons, List.not_mem_nil, or_false] at hx
          rcases hx with rfl | rfl <;> exact cell_ev _
        · rw [List.mem_singleton.mp hx]
          exact .int _
      refine ⟨B, rfl, m2.na, m2.nl, m2.nw, ⟨m + 1, by omega, (S6.same s4).lst hB7 m2.na m2.nl⟩, ?_, .inl ⟨by omega, FBad.of (m := ls.length) (k := k) (q := q4) (r := (lv ls[k] ++ [V.int 0]).take v) upd_same (by rw [List.length_set, hBl]) (by omega) (fun v' hv' => ?_) ?_ ?_ (row_len hv2)⟩⟩
      · intro c' o ca cl e
        rw [upd_ne (ne_of_none e m2.nw)]
        exact s4 _ _ (k6 _ _ ca cl (k3 _ _ ca cl e))
      · rcases List.mem_or_eq_of_mem_set hv' with h | h
        · obtain ⟨i, hi⟩ := List.getElem?_of_mem h
          obtain ⟨c', r', rfl, hr', z1, z2⟩ := hE3.at_ hi
          refine ⟨c', r', rfl, ?_, fun z => z2.1 (by simp only [List.mem_cons, List.not_mem_nil, or_false] at z ⊢; rcases z with z | z <;> simp [z]), fun x hx => ?_⟩
          · rw [upd_ne (fun e => z2.1 (by rw [e]; simp))]
            exact s4 _ _ (k6 _ _ (fun e => z2.1 (by rw [e]; simp)) (fun e => z2.1 (by rw [e]; simp)) z1)
          · rw [List.getElem?_map, Option.map_eq_some_iff] at hr'
            obtain ⟨l', _, rfl⟩ := hr'
            simp only [lv, List.mem_cons, List.not_mem_nil, or_false] at hx
            rcases hx with rfl | rfl <;> exact cell_ev _
        · exact ⟨q4, _, h, by rw [upd_ne nBq]; exact upd_same, by simp [q4a, q4l], cellT _⟩
      · rw [List.getElem?_set_self (by rw [hBl]; exact hk)]
      · rw [upd_ne nBq]
        exact upd_same
    clear m2
    rintro _ H5 ⟨B, rfl, m3⟩
    refine ⟨fun σ' H' => ∃ B m, σ' = [some (.ref a), some (.ref LL), some (.ref B), some (.int kd), some (.int (k : Int)), none, none] ∧ B ≠ a ∧ B ≠ l ∧ m ≤ n + 12 ∧ StreamAt H' a l m ∧ Keep a l H H' ∧ FBad a l H' B, ?_, ?_⟩
    · refine ⟨_, rfl, _, _, rfl, rfl, _, rfl, ifD_2 (fun h => ?_) (fun h => ?_)⟩
      rotate_left
      · obtain ⟨m, hm, Sm_⟩ := m3.st
        rcases m3.or with q | q
        · exact ⟨B, m, rfl, m3.na, m3.nl, by omega, Sm_, m3.kp, q.2⟩
        · omega
      obtain ⟨rB, hB, hEB⟩ : FGood a l ls H H5 B := by
        rcases m3.or with q | q
        · omega
        · exact q.2
      have hBl : rB.length = ls.length := by rw [hEB.1, List.length_map]
      obtain ⟨m, hm, Sm_⟩ := m3.st
      have hlk : (ls.map lv)[k]? = some (lv ls[k]) := by rw [List.getElem?_map, List.getElem?_eq_getElem hk]; rfl
      obtain ⟨c, hck, hc, hcn, hcZ⟩ := hEB.get hlk
      refine ⟨_, rfl, _, rfl, B, _, rfl, .inl (SqL.of hB), _, rfl, by show 1 ≤ sizeLine; decide, fun TT hTT => ⟨10, 20, rfl, rfl, (by show CPow 10 20; unfold CPow; decide), by show 8 ≤ sizeLine; decide, fun q hq => ?_⟩⟩
      have s1 := new_ (o := .tup [V.int 0]) hTT
      obtain ⟨qa, ql⟩ := (Sm_.same s1).ne hq
      refine ⟨a, l, q, m, _, rfl, (Sm_.same s1).same (new_ hq), by omega, upd_same, qa, ql, by show 1 ≤ 8; decide, by show 8 ≤ 48; decide, fun i x H6 hx S6 k6 => ?_⟩
      have hmx := List.mem_of_getElem? hx
      have s2 := new_ (o := .lst [V.int (rB.length : Int), V.int (-1), V.bl true, V.bl false, V.str "0", V.str "-", V.ref TT, V.int (10 ^ (20 : Int).toNat)]) hq
      have gT := s2 _ _ (upd_same (H := H5) (a := TT) (o := .tup [V.int 0]))
      have S5' := (Sm_.same s1).same s2
      have k56 : Keep a l H5 H6 := (Keep.of (s1.trans s2)).trans k6
      have gT6 : H6 TT = some (.tup [V.int 0]) := by
        obtain ⟨_, ns', x', z', w1, w2, _⟩ := id S5'
        exact k6 _ _ (ne_of gT w1 (by intro z; cases z)) (ne_of gT w2 (by intro z; cases z)) gT
      have hB6 := k56 _ _ m3.na m3.nl hB
      have ca : c ≠ a := fun e => hcn (by rw [e]; simp)
      have cl : c ≠ l := fun e => hcn (by rw [e]; simp)
      have cB : c ≠ B := fun e => hcn (by rw [e]; simp)
      have hc6 := k56 _ _ ca cl hc
      refine ⟨_, rfl, _, rfl, B, _, _, _, rfl, rfl, SqL.of hB6, atI_nat hck, _, rfl, a, l, m + 1, 2, rfl, S6, by omega, by decide, sm48 (by decide) (by decide), fun r H7 r0 r1 S7 k7 => ?_⟩
      have k57 := k56.trans k7
      have hB7 := k57 _ _ m3.na m3.nl hB
      have hc7 := k57 _ _ ca cl hc
      have gT7 : H7 TT = some (.tup [V.int 0]) := by
        obtain ⟨_, ns', x', z', w1, w2, _⟩ := id S6
        exact k7 _ _ (ne_of gT6 w1 (by intro z; cases z)) (ne_of gT6 w2 (by intro z; cases z)) gT6
      obtain ⟨j, rfl, hj⟩ : ∃ j : Nat, r = (j : Int) ∧ j < 2 := ⟨r.toNat, by omega, by omega⟩
      refine ⟨c, _, _, j, rfl, rfl, hc7, Evl.ixN_nat hj, ?_⟩
      have gT8 : (upd H7 c (.lst ((lv ls[k]).set j x))) TT = some (.tup [V.int 0]) := by
        rw [upd_ne (ne_of gT7 hc7 (by intro z; cases z))]
        exact gT7
      have hx2 : entOk ls.length x = false ∧ ∀ H' : Hp, H' TT = some (.tup [V.int 0]) → Cell H' x := by
        simp only [List.mem_cons, List.not_mem_nil, or_false] at hmx
        rcases hmx with rfl | rfl | rfl | rfl | rfl | rfl | rfl | rfl
        · refine ⟨?_, fun _ _ => .int _⟩
          show (decide (V.int (rB.length : Int) = .non) || (decide ((0 : Int) ≤ (rB.length : Int)) && decide ((rB.length : Int) < (ls.length : Int)))) = false
          rw [hBl, decide_eq_false (by intro z; cases z), decide_eq_false (Int.lt_irrefl _), Bool.and_false]
          rfl
        · exact ⟨rfl, fun _ _ => .int _⟩
        · exact ⟨rfl, fun _ _ => .bl _⟩
        · exact ⟨rfl, fun _ _ => .bl _⟩
        · exact ⟨rfl, fun _ _ => .str _⟩
        · exact ⟨rfl, fun _ _ => .str _⟩
        · exact ⟨rfl, fun _ h => .tup h⟩
        · refine ⟨?_, fun _ _ => .int _⟩
          show (decide (V.int (10 ^ (20 : Int).toNat) = .non) || (decide ((0 : Int) ≤ 10 ^ (20 : Int).toNat) && decide ((10 : Int) ^ (20 : Int).toNat < (ls.length : Int)))) = false
          have e20 : (10 : Int) ^ (20 : Int).toNat = 100000000000000000000 := by decide
          rw [e20, decide_eq_false (by intro z; cases z), decide_eq_false (by omega : ¬ (100000000000000000000 : Int) < (ls.length : Int)), Bool.and_false]
          rfl
      refine ⟨B, m + 2, rfl, m3.na, m3.nl, by omega, S7.lst hc7 ca cl, fun c' o ca' cl' e => ?_, FBad.of (refs := rB) (m := ls.length) (k := k) (q := c) (r := (lv ls[k]).set j x) (by rw [upd_ne cB.symm]; exact hB7) hBl (by omega) (fun v' hv' => ?_) hck upd_same (row_set hj hx2.1)⟩
      · rw [upd_ne (ne_of_none e hcZ)]
        exact k57 _ _ ca' cl' (m3.kp _ _ ca' cl' e)
      · obtain ⟨i', hi'⟩ := List.getElem?_of_mem hv'
        obtain ⟨c', r', rfl, hr', z1, z2, z3⟩ := hEB.at_ hi'
        by_cases ec : c' = c
        · subst ec
          refine ⟨c', _, rfl, upd_same, by simp [ca, cl], fun y hy => ?_⟩
          rcases List.mem_or_eq_of_mem_set hy with hy | hy
          · simp only [lv, List.mem_cons, List.not_mem_nil, or_false] at hy
            rcases hy with rfl | rfl <;> exact cell_ev _
          · rw [hy]
            exact hx2.2 _ gT8
        · refine ⟨c', r', rfl, ?_, fun z => z2 (by simp only [List.mem_cons, List.not_mem_nil, or_false] at z ⊢; rcases z with z | z <;> simp [z]), fun y hy => ?_⟩
          · rw [upd_ne ec]
            exact k57 _ _ (fun e => z2 (by rw [e]; simp)) (fun e => z2 (by rw [e]; simp)) z1
          · rw [List.getElem?_map, Option.map_eq_some_iff] at hr'
            obtain ⟨l', _, rfl⟩ := hr'
            simp only [lv, List.mem_cons, List.not_mem_nil, or_false] at hy
            rcases hy with rfl | rfl <;> exact cell_ev _
    clear m3
    rintro _ H6 ⟨B, m, rfl, Ba, Bl, hm, S6, k6, ⟨refs', rows, hB, hEb, h60, hcl, bad⟩⟩
    refine ⟨_, rfl, _, rfl, a, l, B, m, refs', rows, rfl, S6, by omega, hB, Ba, Bl, hEb, h60, fun G rG n7 H7 hG hEG hGn S7 hn7 k7 => ?_⟩
    have tup67 : ∀ c xs, H6 c = some (.tup xs) → H7 c = some (.tup xs) := fun c xs e => by
      obtain ⟨_, ns', x', z', w1, w2, _⟩ := id S6
      exact k7 _ _ (ne_of e w1 (by intro z; cases z)) (ne_of e w2 (by intro z; cases z)) e
    intro x dx nx ndx nex
    refine mk_rows (C := C) (X := X) hG (hEG.imp fun c r q => q.tl) (by omega) (fun r hr v hv => (hcl r hr v hv).kin tup67) nx ndx nex (fun ok => absurd (bad.symm.trans ok) (by decide)) fun _ H8 s8 σ hσ => ⟨true, TX.e, fun _ a' ha' => ?_, fun q => Bool.noConfusion q⟩
    refine ⟨rfl, rfl, ?_, fun H9 s9 => kk n7 _ ((S7.same s8).same s9) (by omega) ((k6.trans k7).trans (Keep.of (s8.trans s9)))⟩
    match σ, hσ with
    | [y0, y1, y2, y3, y4, y5, y6], _ => rfl
end
end PA

set_option maxHeartbeats 8000000
namespace PA
open PySem L2 RZ
open C8 (pss_cut tCut)
open TS (Ln EOk LOk GoodL wS rdW txt rowS numS)
section
variable {P : Program} {w : World} {K : PySem.W.Frag} {mg : Str → Option Value} {base : Heap} {C X PE_ Fo : Addr}
theorem scLEntry : FnScope ["_law_entry_here"] ["_law_entry_here"] (defScope sLEntry) := ⟨rfl, rfl, rfl, by decide +kernel, rfl, by decide +kernel, by decide +kernel⟩
theorem ok_lentry {f : Addr} {fd : FuncData} (F : Fun K "_law_entry" "_law_entry" sLEntry f fd) (T : Txt K mg) : FnOk P w K mg base CX0 1 f fd ["_law_entry_here"] spWord := by
  refine F.ok scLEntry (fun vs H Q E h => ?_) (fun cdv A outer s H vs Q E hr h => ?_)
  · obtain ⟨o, rfl, _⟩ := h
    rfl
  · obtain ⟨o, rfl, ho, k⟩ := h
    refine ⟨_, pss_one (ps_ret (pe_ifExp (pt_cmpR op_isN (pv 0) pe_non (nomark _)) pe_str (pe_callTy call_str_int (by rfl) T.str_ boot_str' (pa_cons (pv 0) pa_nil)))), ?_⟩
    refine ⟨_, rfl, rfl, _, rfl, ?_⟩
    cases o with
    | none => exact iteT k
    | some n =>
      have hn := ho n rfl
      have h1 : ((n : Int).natAbs.log2 < 1920) := by
        rw [Int.natAbs_natCast]
        refine Nat.lt_of_le_of_lt (Nat.log2_le_self n) (by omega)
      exact iteF ⟨_, rfl, (n : Int), rfl, h1, k⟩
end
/-! ### the law's own reading -/
theorem eqV_strs (a b : Str) : eqV (.str a) (.str b) = decide (a = b) := by
  show (a == b) = decide (a = b)
  rw [Bool.eq_iff_iff]
  simp
abbrev tx (ss : List Str) : List V := ss.map V.str
theorem inV_tx (s : Str) (ss : List Str) : inV (.str s) (tx ss) = decide (s ∈ ss) := by
  unfold inV
  rw [Bool.eq_iff_iff, List.any_eq_true]
  simp only [decide_eq_true_eq]
  constructor
  · rintro ⟨x, hx, e⟩
    obtain ⟨z, hz, rfl⟩ := List.mem_map.mp hx
    rw [eqV_strs, decide_eq_true_eq] at e
    rw [← e]
    exact hz
  · intro h
    exact ⟨.str s, List.mem_map.mpr ⟨s, h, rfl⟩, by rw [eqV_strs, decide_eq_true_eq]⟩
theorem tx_flat (ss : List Str) : (tx ss).all flatV = true := by
  rw [List.all_eq_true]
  intro x hx
  obtain ⟨z, _, rfl⟩ := List.mem_map.mp hx
  rfl
def nums : List Str := (List.range 48).map numS
/-- a word of the text of a row set -/
def okW (w : Str) : Bool := decide (w = "-") || decide (w ∈ nums)
theorem okW_wS {e : Option Nat} (h : EOk 48 e) : okW (wS e) = true := by
  unfold okW
  cases e with
  | none => rfl
  | some n => rw [Bool.or_eq_true, decide_eq_true_eq, decide_eq_true_eq]; exact .inr (List.mem_map.mpr ⟨n, List.mem_range.mpr (h n rfl), rfl⟩)
theorem okW_back {w : Str} (h : okW w = true) : ∃ e, EOk 48 e ∧ w = wS e := by
  unfold okW at h
  rw [Bool.or_eq_true, decide_eq_true_eq, decide_eq_true_eq] at h
  rcases h with h | h
  · exact ⟨none, (fun a e => by cases e), h⟩
  · obtain ⟨n, hn, rfl⟩ := List.mem_map.mp h
    exact ⟨some n, (fun a e => by cases e; exact List.mem_range.mp hn), rfl⟩
theorem isTxt_split {t : Str} (h : IsTxt t) : ∃ ls, GoodL ls ∧ PySem.Txt.split t "; " = ls.map rowS := by
  obtain ⟨ls, g, rfl⟩ := h
  exact ⟨ls, g, TS.split_txt g.ne g.all48⟩
theorem isTxt_words {t pc : Str} (h : IsTxt t) (hp : pc ∈ PySem.Txt.split t "; ") : (PySem.Txt.split pc " ").length = 2 ∧ ∀ w ∈ PySem.Txt.split pc " ", okW w = true := by
  obtain ⟨ls, g, e⟩ := isTxt_split h
  rw [e] at hp
  obtain ⟨l, hl, rfl⟩ := List.mem_map.mp hp
  have ok := g.all48 l hl
  rw [TS.split_row ok]
  refine ⟨rfl, fun w hw => ?_⟩
  simp only [List.mem_cons, List.not_mem_nil, or_false] at hw
  rcases hw with rfl | rfl
  · exact okW_wS ok.1
  · exact okW_wS ok.2
theorem split_ne (t : Str) : PySem.Txt.split t "; " ≠ [] := fun h => by
  have e : t = txt [] := TS.txt_back (ls := []) (by rw [h]; rfl)
  rw [e] at h
  revert h
  decide +kernel
theorem isTxt_eq {t : Str} {ls : List Ln} (h : IsTxt t) (e : PySem.Txt.split t "; " = ls.map rowS) (ok : ∀ l ∈ ls, LOk 48 l) : GoodL ls := by
  obtain ⟨ls', g, e'⟩ := isTxt_split h
  rw [e'] at e
  rw [← TS.map_inj_on (fun x hx y hy => TS.rowS_inj (g.all48 x hx) (ok y hy)) e]
  exact g
def spReading : Sp := fun vs H Q _ => ∃ t : Str, vs = [.str t] ∧ t.length ≤ 8000 ∧ (∀ ls, GoodL ls → t = txt ls → ∀ p refs H', Same H H' → H p = none → H' p = some (.tup refs) → Ea H' isLn refs ls → Q (.ref p) H') ∧ (¬ IsTxt t → ∀ H', Same H H' → Q .non H')
def stOk (n : Nat) (o : Option Nat) : Bool := match o with
  | none => true
  | some a => decide (a < n)
theorem stOk_iff {n : Nat} {o : Option Nat} : stOk n o = true ↔ EOk n o := by
  cases o with
  | none => exact ⟨(fun _ a e => by cases e), fun _ => rfl⟩
  | some a =>
    show decide (a < n) = true ↔ _
    rw [decide_eq_true_eq]
    exact ⟨fun h b e => by cases e; exact h, fun h => h a rfl⟩
abbrev NRdg : List Str := ["_law_text", "_law_numbers", "_law_found", "_law_piece", "_law_words", "_law_states", "_law_k", "_law_word", "_law_row", "_law_state"]
section
variable {P : Program} {w : World} {K : PySem.W.Frag} {mg : Str → Option Value} {base : Heap} {C X PE_ Fo : Addr}
theorem op_in_seqK {X : Cx} {K : PySem.W.Frag} (h : X.K = K) : OpR X (compareOp .In) (rIn K false) := h ▸ op_in_seq
theorem scRdg : FnScope NRdg ["_law_text"] (defScope sReading) := ⟨rfl, rfl, rfl, by decide +kernel, rfl, by decide +kernel, by decide +kernel⟩
theorem ok_reading {f : Addr} {fd : FuncData} (F : Fun K "_law_reading" "_law_reading" sReading f fd) (T : Txt K mg) : FnOk P w K mg base CX0 1 f fd ["_law_text"] spReading := by
  refine F.ok scRdg (fun vs H Q E h => ?_) (fun cdv A outer s H vs Q E hr h => ?_)
  · obtain ⟨o, rfl, _⟩ := h
    rfl
  · obtain ⟨t, rfl, hl, kg, kb⟩ := h
    refine ⟨_, pss_cons (ps_set (i := 1) scRdg.nd rfl (Or.inr rfl) (pe_lc (own := [("_law_k", 6)]) (g := gName 6) (tt := tYes) (by rfl) scRdg.nd (pi_range1 (by rfl) T.range_ (pa_cons pe_int pa_nil)) (blkOk_by (N := NRdg) (sc := defScope sReading) (by decide +kernel))
          (fun _ _ _ _ _ => pg_name (i := 6) scRdg.nd rfl (Or.inl rfl)) (fun _ _ _ _ _ => pts_nil)
          (fun _ _ _ _ _ => pe_callTy call_str_int (by rfl) T.str_ boot_str' (pa_cons (pv 6) pa_nil))))
      (pss_cons (ps_set (i := 2) scRdg.nd rfl (Or.inr rfl) (pe_lst pa_nil))
      (pss_cut (ps_for PassesOwn.never rfl (pi_list (pe_bm PySem.F.plainAttrs_str PySem.F.slot_str_split PySem.F.type_str_split mt_split (pv 0) (pa_cons pe_str pa_nil))) (pg_name (i := 3) scRdg.nd rfl (Or.inl rfl))
        (pss_cons (ps_set (i := 4) scRdg.nd rfl (Or.inl rfl) (pe_bm PySem.F.plainAttrs_str PySem.F.slot_str_split PySem.F.type_str_split mt_split (pv 3) (pa_cons pe_str pa_nil)))
        (pss_cons (ps_if (PW.pt (pw_or (pt_cmpR op_ne (pe_callB call_len_seq (by rfl) T.len_ PySem.boot_len (pa_cons (pv 4) pa_nil)) pe_int (nomark _)) (pw_or1 (pt_not (pt_val (pe_callB (cr_all rfl) (by rfl) T.all_ boot_all' (pa_cons (pe_lc (own := [("_law_word", 7)]) (g := gName 7) (tt := tYes) (by rfl) scRdg.nd (pi_list (pv 4)) (blkOk_by (N := NRdg) (sc := defScope sReading) (by decide +kernel))
            (fun _ _ _ _ _ => pg_name (i := 7) scRdg.nd rfl (Or.inl rfl)) (fun _ _ _ _ _ => pts_nil)
            (fun _ _ _ _ _ => pe_or (pe_cmpR op_eq (pv 7) pe_str (nomark _)) (pe_one (pe_cmpR (op_in_seqK (K := K) rfl) (pv 7) (pv 1) rfl)))) pa_nil))))))) (pss_one (ps_ret pe_non)) pss_nil)
        (pss_one (ps_expr (pe_bm PySem.F.plainAttrs_list PySem.F.slot_list_append PySem.F.type_list_append mt_append (pv 2) (pa_cons (pe_callTy call_tuple_of (by rfl) T.tup_ boot_tuple' (pa_cons (pe_lc (own := [("_law_word", 7)]) (g := gName 7) (tt := tYes) (by rfl) scRdg.nd (pi_list (pv 4)) (blkOk_by (N := NRdg) (sc := defScope sReading) (by decide +kernel))
            (fun _ _ _ _ _ => pg_name (i := 7) scRdg.nd rfl (Or.inl rfl)) (fun _ _ _ _ _ => pts_nil)
            (fun _ _ _ _ _ => pe_ifExp (pt_cmpR op_eq (pv 7) pe_str (nomark _)) pe_non (pe_callTy call_int_str (by rfl) T.int_ boot_int' (pa_cons (pv 7) pa_nil)))) pa_nil)) pa_nil)))))))
      (pss_cons (ps_set (i := 5) scRdg.nd rfl (Or.inl rfl) (pe_op op_cat (pe_lc (own := [("_law_row", 8)]) (g := gName 8) (tt := tYes) (by rfl) scRdg.nd (pi_list (pv 2)) (blkOk_by (N := NRdg) (sc := defScope sReading) (by decide +kernel))
            (fun _ _ _ _ _ => pg_name (i := 8) scRdg.nd rfl (Or.inl rfl)) (fun _ _ _ _ _ => pts_nil)
            (fun _ _ _ _ _ => pe_ix (ix_tupK (K := K) rfl) (pv 8) pe_int (fun _ _ => rfl)))
          (pe_lc (own := [("_law_row", 8)]) (g := gName 8) (tt := tYes) (by rfl) scRdg.nd (pi_list (pv 2)) (blkOk_by (N := NRdg) (sc := defScope sReading) (by decide +kernel))
            (fun _ _ _ _ _ => pg_name (i := 8) scRdg.nd rfl (Or.inl rfl)) (fun _ _ _ _ _ => pts_nil)
            (fun _ _ _ _ _ => pe_ix (ix_tupK (K := K) rfl) (pv 8) pe_int (fun _ _ => rfl)))))
      (pss_cons (ps_if (PW.pt (pw_or (pt_cmpR op_gt (pe_callB call_len_seq (by rfl) T.len_ PySem.boot_len (pa_cons (pv 2) pa_nil)) pe_int (nomark _)) (pw_or1 (pt_not (pt_val (pe_callB (cr_all rfl) (by rfl) T.all_ boot_all' (pa_cons (pe_lc (own := [("_law_state", 9)]) (g := gName 9) (tt := tYes) (by rfl) scRdg.nd (pi_list (pv 5)) (blkOk_by (N := NRdg) (sc := defScope sReading) (by decide +kernel))
            (fun _ _ _ _ _ => pg_name (i := 9) scRdg.nd rfl (Or.inl rfl)) (fun _ _ _ _ _ => pts_nil)
            (fun _ _ _ _ _ => pe_or (pe_cmp (pc_isN (pv 9))) (pe_one (pe_cmpR op_lt (pv 9) (pe_callB (call_lenK (K := K) rfl) (by rfl) T.len_ PySem.boot_len (pa_cons (pv 2) pa_nil)) (nomark _))))) pa_nil))))))) (pss_one (ps_ret pe_non)) pss_nil)
      (pss_one (ps_ret (pe_callTy call_tuple_of (by rfl) T.tup_ boot_tuple' (pa_cons (pv 2) pa_nil)))))))), ?_⟩
    refine ⟨48, rfl, by decide, by decide, fun NM hNM => ?_⟩
    refine lc_range (n := 48) (fun i H' => Same H H' ∧ H' NM = some (.lst (tx ((List.range i).map numS)))) ⟨new_ hNM, upd_same⟩ ?_ ?_
    · rintro i H' hi ⟨s', hn⟩
      refine ⟨rfl, ?_⟩
      dsimp only [tYes]
      rw [if_pos rfl]
      refine ⟨_, rfl, (i : Int), by rw [Int.zero_add], ?_, _, hn, ?_, fun c o e => ?_, ?_⟩
      · rw [Int.natAbs_natCast]
        exact Nat.lt_of_le_of_lt (Nat.log2_le_self i) (by omega)
      · rw [List.length_map, List.length_map, List.length_range]
        exact Nat.lt_of_lt_of_le hi (by decide)
      · rw [upd_ne (ne_of_none e hNM)]
        exact s' _ _ e
      · rw [upd_same, List.range_succ, List.map_append, tx, tx, List.map_append]
        rfl
    rintro H1 ⟨s1, hnm⟩
    refine ⟨Nat.zero_le _, fun FD hFD => ?_⟩
    have s2 := s1.trans (new_ (o := .lst []) hFD)
    have hnm2 := new_ (o := .lst []) hFD _ _ hnm
    have hFD0 : H FD = none := s1.none hFD
    have neNF : NM ≠ FD := ne_of_none hnm hFD
    have hfd2 : (upd H1 FD (.lst [])) FD = some (.lst []) := upd_same
    generalize (upd H1 FD (.lst [])) = H2 at s2 hnm2 hfd2 ⊢
    refine ⟨fun σ' H' => ∃ x3 x4 acc ls, σ' = [some (.str t), some (.ref NM), some (.ref FD), x3, x4, none, none, none, none, none] ∧ Same H H' ∧ H' FD = some (.lst acc) ∧ Ea H' isLn acc ls ∧ PySem.Txt.split t "; " = ls.map rowS ∧ ∀ l ∈ ls, LOk 48 l, ?_, ?_⟩
    · refine ⟨_, rfl, rfl, _, _, rfl, rfl, by decide +kernel, Nat.le_trans (Nat.add_le_add_right hl 2) (by decide), fun q hq => ⟨q, rfl, ⟨_, SqL.of upd_same⟩, ?_⟩⟩
      have sq := new_ (o := .lst ((PySem.Txt.split t "; ").map V.str)) hq
      have hqq : (upd H2 q (.lst ((PySem.Txt.split t "; ").map V.str))) q = some (.lst ((PySem.Txt.split t "; ").map V.str)) := upd_same
      have s3 := s2.trans sq
      have hnm3 := sq _ _ hnm2
      have hfd3 := sq _ _ hfd2
      have neqF : q ≠ FD := (ne_of_none hfd2 hq).symm
      generalize (upd H2 q (.lst ((PySem.Txt.split t "; ").map V.str))) = H3 at s3 hqq hnm3 hfd3 ⊢
      have hps := TS.split_len t "; " (by decide +kernel)
      have hpl : ∀ p ∈ PySem.Txt.split t "; ", p.length ≤ 8000 := fun p hp => Nat.le_trans (TS.part_len hp) hl
      have hbad : ∀ p ∈ PySem.Txt.split t "; ", ¬ ((PySem.Txt.split p " ").length = 2 ∧ ∀ w ∈ PySem.Txt.split p " ", okW w = true) → ¬ IsTxt t := fun p hp z y => z (isTxt_words y hp)
      generalize hpcs : PySem.Txt.split t "; " = pcs at hqq hps hpl hbad ⊢
      refine for_it (walk_l (xs := tx pcs)) (fun i σ' H' => ∃ x3 x4 acc ls, σ' = [some (.str t), some (.ref NM), some (.ref FD), x3, x4, none, none, none, none, none] ∧ (∀ c o, c ≠ FD → H3 c = some o → H' c = some o) ∧ H' FD = some (.lst acc) ∧ Ea H' isLn acc ls ∧ pcs.take i = ls.map rowS ∧ ∀ l ∈ ls, LOk 48 l) ?_ ?_ ?_ ?_
      · exact ⟨_, _, [], [], rfl, fun _ _ _ e => e, hfd3, Ea.nil, rfl, fun l hl => by cases hl⟩
      · rintro i _ H' _ ⟨_, _, _, _, rfl, kp, _⟩
        exact SqL.of (kp _ _ neqF hqq)
      · rintro i xv _ H6 H' hi ⟨x3, x4, acc, ls, rfl, kp, hfd, he, etk, ok⟩ ⟨rfl, hx⟩
        rw [List.getElem?_map, Option.map_eq_some_iff] at hx
        obtain ⟨pc, hpc, rfl⟩ := hx
        have hmem := List.mem_of_getElem? hpc
        have hpcl := hpl pc hmem
        have hws := TS.split_len pc " " (by decide +kernel)
        have hb := hbad pc hmem
        have hwl : ∀ w ∈ PySem.Txt.split pc " ", w.length ≤ 8000 := fun w hw => Nat.le_trans (TS.part_len hw) hpcl
        refine ⟨_, rfl, rfl, _, _, rfl, rfl, by decide +kernel, Nat.le_trans (Nat.add_le_add_right hpcl 2) (by decide), fun u hu => ?_⟩
        have su := new_ (o := .lst ((PySem.Txt.split pc " ").map V.str)) hu
        have huu : (upd H' u (.lst ((PySem.Txt.split pc " ").map V.str))) u = some (.lst ((PySem.Txt.split pc " ").map V.str)) := upd_same
        have hfd4 := su _ _ hfd
        have he4 := he.same su
        have kp4 : ∀ c o, c ≠ FD → H3 c = some o → (upd H' u (.lst ((PySem.Txt.split pc " ").map V.str))) c = some o := fun c o n e => su _ _ (kp c o n e)
        have neuF : u ≠ FD := (ne_of_none hfd hu).symm
        generalize (upd H' u (.lst ((PySem.Txt.split pc " ").map V.str))) = H4 at huu hfd4 he4 kp4 ⊢
        have same4 : ∀ H5, Same H4 H5 → Same H H5 := fun H5 s c o e => s _ _ (kp4 _ _ (ne_of_none e hFD0) (s3 _ _ e))
        have hsp : ∀ pc', pc' = pc → PySem.Txt.split pc' " " = PySem.Txt.split pc " " := fun _ e => by rw [e]
        generalize hw : PySem.Txt.split pc " " = ws at huu hws hb hwl ⊢
        refine ⟨_, rfl, u, _, rfl, .inl (SqL.of huu), rfl, _, rfl, ?_⟩
        rw [List.length_map]
        by_cases h2 : ws.length = 2
        rotate_left
        · rw [decide_eq_false (fun z => h2 (by injection z with z; omega))]
          exact iteT (kb (hb fun z => h2 z.1) H4 (same4 H4 fun _ _ e => e))
        rw [decide_eq_true (by rw [h2]; rfl)]
        refine iteF ?_
        refine ⟨_, rfl, u, rfl, ⟨_, SqL.of huu⟩, fun Dd hD => ?_⟩
        have hnm4 := kp4 _ _ neNF hnm3
        refine lc_same (xs := tx ws) (walk_l (K := K) (a := u) (xs := tx ws)) (by rw [List.length_map, h2]; decide) hD (fun H' s' => SqL.of (s' _ _ huu)) ((ws.map okW).map V.bl) (by simp) (fun j x y H' Φ Ψ hx hy sm k => ?_) fun H5 s5 hd5 => ?_
        · rw [List.getElem?_map, Option.map_eq_some_iff] at hx
          obtain ⟨wd, hwd, rfl⟩ := hx
          rw [List.getElem?_map, List.getElem?_map, hwd] at hy
          cases hy
          refine ⟨rfl, ?_⟩
          dsimp only [tYes]
          rw [if_pos rfl]
          refine ⟨_, rfl, rfl, _, rfl, ?_⟩
          by_cases hz : wd = "-"
          · subst hz
            exact iteT (k H' fun _ _ e => e)
          · have ed : decide (V.str wd = V.str "-") = false := decide_eq_false fun z => hz (by injection z)
            rw [ed]
            refine iteF ⟨_, rfl, _, rfl, NM, _, rfl, .inl (SqL.of (sm _ _ hnm4)), rfl, tx_flat _, ?_⟩
            have e2 : okW wd = inV (.str wd) (tx nums) := by
              rw [inV_tx]
              unfold okW
              rw [decide_eq_false hz, Bool.false_or]
            rw [e2] at k
            exact k H' fun _ _ e => e
        refine ⟨Dd, _, rfl, SqL.of hd5, ?_⟩
        cases hall : (ws.map okW).all id with
        | false =>
          refine ⟨false, rfl, iteT (kb (hb fun z => ?_) H5 (same4 H5 s5))⟩
          have : (ws.map okW).all id = true := by
            rw [List.all_map, List.all_eq_true]
            exact fun w hw => z.2 w hw
          rw [hall] at this
          cases this
        | true =>
        refine ⟨true, rfl, iteF ?_⟩
        have hokw : ∀ w ∈ ws, okW w = true := by
          rw [List.all_map, List.all_eq_true] at hall
          exact fun w hw => hall w hw
        obtain ⟨a, b, oa, ob, rfl⟩ : ∃ a b, EOk 48 a ∧ EOk 48 b ∧ ws = [wS a, wS b] := by
          match ws, h2, hokw with
          | [x, y], _, hk =>
            obtain ⟨a, oa, rfl⟩ := okW_back (hk x (by simp))
            obtain ⟨b, ob, rfl⟩ := okW_back (hk y (by simp))
            exact ⟨a, b, oa, ob, rfl⟩
        have hfd5 := s5 _ _ hfd4
        have huu5 := s5 _ _ huu
        refine ⟨_, rfl, .inl ⟨rfl, _, SqL.of hfd5⟩, _, rfl, u, rfl, ⟨_, SqL.of huu5⟩, fun De hE => ?_⟩
        refine lc_same (xs := tx [wS a, wS b]) (walk_l (K := K) (a := u) (xs := tx [wS a, wS b])) (by show 2 ≤ sizeLine; decide) hE (fun H' s' => SqL.of (s' _ _ huu5)) (lv (a, b)) rfl (fun j x y H' Φ Ψ hx hy sm k => ?_) fun H7 s7 hd7 => ?_
        · have hxy : ∃ e, EOk 48 e ∧ x = .str (wS e) ∧ y = ev e := by
            rcases j with _ | _ | j
            · cases hx; cases hy; exact ⟨a, oa, rfl, rfl⟩
            · cases hx; cases hy; exact ⟨b, ob, rfl, rfl⟩
            · cases hx
          obtain ⟨e, oe, rfl, rfl⟩ := hxy
          refine ⟨rfl, ?_⟩
          dsimp only [tYes]
          rw [if_pos rfl]
          refine ⟨_, rfl, rfl, _, rfl, ?_⟩
          cases e with
          | none => exact iteT (k H' fun _ _ e => e)
          | some n =>
            obtain ⟨_, n2, _, _, n5, n6⟩ := TS.num_ok (oe n rfl)
            have ed : decide (V.str (wS (some n)) = V.str "-") = false := decide_eq_false fun z => n6 (by injection z)
            rw [ed]
            exact iteF ⟨_, rfl, numS n, (n : Int), rfl, n5, Nat.le_trans n2 (by decide), k H' fun _ _ e => e⟩
        refine ⟨De, _, rfl, .inl ⟨SqL.of hd7, fun tp htp => ?_⟩⟩
        have stp := new_ (o := .tup (lv (a, b))) htp
        have hfd8 := stp _ _ (s7 _ _ hfd5)
        have hal : acc.length ≤ 8001 := by
          have q1 := congrArg List.length etk
          rw [List.length_take, List.length_map] at q1
          rw [he.1]
          omega
        refine ⟨FD, _, _, rfl, rfl, hfd8, Nat.lt_of_le_of_lt hal (by decide), ?_⟩
        have sAll := (s5.trans s7).trans stp
        refine ⟨_, _, acc ++ [.ref tp], ls ++ [(a, b)], rfl, fun c o n e => ?_, upd_same, ?_, ?_, fun l hl => ?_⟩
        · rw [upd_ne n]
          exact sAll _ _ (kp4 c o n e)
        · exact ((he4.same sAll).imp fun c r q => TupOf.lst (f := lv) q hfd8).push (TupOf.lst (f := lv) (r := (a, b)) upd_same hfd8)
        · rw [take_succ' hpc, etk, List.map_append, TS.row_back hw]
          rfl
        · rcases List.mem_append.mp hl with hl | hl
          · exact ok l hl
          · cases List.mem_singleton.mp hl
            exact ⟨oa, ob⟩
      · rintro _ H' ⟨x3, x4, acc, ls, rfl, kp, hfd, he, etk, ok⟩
        rw [List.length_map, List.take_length] at etk
        exact ⟨x3, x4, acc, ls, rfl, fun c o e => kp _ _ (ne_of_none e hFD0) (s3 _ _ e), hfd, he, etk, ok⟩
    rintro _ H8 ⟨x3, x4, acc, ls, rfl, s8, hfd, he, esp, ok⟩
    have hal : acc.length = ls.length := he.1
    have hlen : ls.length ≤ 8001 := by
      have q := TS.split_len t "; " (by decide +kernel)
      rw [esp, List.length_map] at q
      omega
    have hne : ls ≠ [] := fun z => split_ne t (by rw [esp, z]; rfl)
    have big : ∀ {n : Nat}, n ≤ 20000 → n ≤ sizeLine := fun h => Nat.le_trans h (by decide)
    have col : ∀ (f : Ln → Option Nat) (j : Nat) (hj : ∀ l : Ln, atI (lv l) (j : Int) = some (ev (f l))) (H9 : Hp) (s9 : Same H8 H9) (i : Nat) (x y : V), acc[i]? = some x → (ls.map fun l => ev (f l))[i]? = some y → ∃ c l, x = .ref c ∧ H9 c = some (.tup (lv l)) ∧ atI (lv l) (j : Int) = some y := by
      intro f j hj H9 s9 i x y hx hy
      obtain ⟨c, l, rfl, hl', hc⟩ := he.at_ hx
      rw [List.getElem?_map, hl'] at hy
      cases hy
      exact ⟨c, l, rfl, s9 _ _ hc, hj l⟩
    refine ⟨_, rfl, FD, rfl, ⟨_, SqL.of hfd⟩, fun D1 hD1 => ?_⟩
    refine lc_same (xs := acc) (walk_l (K := K) (a := FD) (xs := acc)) (by rw [hal]; exact big (by omega)) hD1 (fun H' s' => SqL.of (s' _ _ hfd)) (ls.map fun l => ev l.1) (by rw [List.length_map, hal]) (fun i x y H' Φ Ψ hx hy sm k => ?_) fun H9 s9 hd9 => ?_
    · obtain ⟨c, l, rfl, hc, ha⟩ := col (fun l => l.1) 0 (fun l => rfl) H' sm i x y hx hy
      refine ⟨rfl, ?_⟩
      dsimp only [tYes]
      rw [if_pos rfl]
      exact ⟨_, rfl, c, _, _, _, rfl, rfl, SqT.of hc, ha, k H' fun _ _ e => e⟩
    have hfd9 := s9 _ _ hfd
    refine ⟨_, rfl, FD, rfl, ⟨_, SqL.of hfd9⟩, fun D2 hD2 => ?_⟩
    refine lc_same (xs := acc) (walk_l (K := K) (a := FD) (xs := acc)) (by rw [hal]; exact big (by omega)) hD2 (fun H' s' => SqL.of (s' _ _ hfd9)) (ls.map fun l => ev l.2) (by rw [List.length_map, hal]) (fun i x y H' Φ Ψ hx hy sm k => ?_) fun HA sA hdA => ?_
    · obtain ⟨c, l, rfl, hc, ha⟩ := col (fun l => l.2) 1 (fun l => rfl) H' (s9.trans sm) i x y hx hy
      refine ⟨rfl, ?_⟩
      dsimp only [tYes]
      rw [if_pos rfl]
      exact ⟨_, rfl, c, _, _, _, rfl, rfl, SqT.of hc, ha, k H' fun _ _ e => e⟩
    have hd9A := sA _ _ hd9
    refine ⟨_, _, _, _, rfl, rfl, hd9A, hdA, by rw [List.length_map, List.length_map]; exact big (by omega), fun ST hST => ?_⟩
    have est : (ls.map fun l => ev l.1) ++ (ls.map fun l => ev l.2) = (ls.map (fun l => l.1) ++ ls.map (fun l => l.2)).map ev := by
      rw [List.map_append, List.map_map, List.map_map]
      rfl
    rw [est]
    have sS := new_ (o := .lst ((ls.map (fun l => l.1) ++ ls.map (fun l => l.2)).map ev)) hST
    have hst : (upd HA ST (.lst ((ls.map (fun l => l.1) ++ ls.map (fun l => l.2)).map ev))) ST = some (.lst ((ls.map (fun l => l.1) ++ ls.map (fun l => l.2)).map ev)) := upd_same
    have sB := (s9.trans sA).trans sS
    generalize (upd HA ST (.lst ((ls.map (fun l => l.1) ++ ls.map (fun l => l.2)).map ev))) = HB at hst sB ⊢
    have hfdB := sB _ _ hfd
    have heB := he.same sB
    have s8B := s8.trans sB
    refine ⟨_, rfl, FD, _, rfl, .inl (SqL.of hfdB), _, _, rfl, rfl, _, rfl, ifD_2 (fun hgt => iteT ?_) (fun hgt => ?_)⟩
    · refine kb (fun z => ?_) HB s8B
      have := (isTxt_eq z esp ok).most
      rw [hal] at hgt
      omega
    rw [hal] at hgt
    refine ⟨_, rfl, ST, rfl, ⟨_, SqL.of hst⟩, fun Dd hD => ?_⟩
    refine lc_same (xs := (ls.map (fun l => l.1) ++ ls.map (fun l => l.2)).map ev) (walk_l (K := K) (a := ST) (xs := (ls.map (fun l => l.1) ++ ls.map (fun l => l.2)).map ev)) (by rw [List.length_map, List.length_append, List.length_map, List.length_map]; exact big (by omega)) hD (fun H' s' => SqL.of (s' _ _ hst)) (((ls.map (fun l => l.1) ++ ls.map (fun l => l.2)).map (stOk ls.length)).map V.bl) (by simp) (fun i x y H' Φ Ψ hx hy sm k => ?_) fun HC sC hdC => ?_
    · rw [List.getElem?_map, Option.map_eq_some_iff] at hx
      obtain ⟨e, he1, rfl⟩ := hx
      rw [List.getElem?_map, List.getElem?_map, he1] at hy
      cases hy
      refine ⟨rfl, ?_⟩
      dsimp only [tYes]
      rw [if_pos rfl]
      refine ⟨_, rfl, _, rfl, ?_⟩
      cases e with
      | none => exact iteT (k H' fun _ _ e => e)
      | some a =>
        refine iteF ⟨_, rfl, _, rfl, FD, _, rfl, .inl (SqL.of (sm _ _ hfdB)), _, _, rfl, rfl, ?_⟩
        have e2 : decide ((a : Int) < ((acc.length : Nat) : Int)) = stOk ls.length (some a) := by
          rw [hal]
          exact decide_eq_decide.mpr (by omega)
        show Φ (V.bl (decide ((a : Int) < ((acc.length : Nat) : Int)))) H'
        rw [e2]
        exact k H' fun _ _ e => e
    refine ⟨Dd, _, rfl, SqL.of hdC, ?_⟩
    have hiff : (((ls.map (fun l => l.1) ++ ls.map (fun l => l.2)).map (stOk ls.length)).all id = true) ↔ ∀ l ∈ ls, LOk ls.length l := by
      rw [List.all_map, List.all_append, Bool.and_eq_true, List.all_map, List.all_map, List.all_eq_true, List.all_eq_true]
      constructor
      · rintro ⟨h1, h2⟩ l hl
        exact ⟨stOk_iff.mp (h1 l hl), stOk_iff.mp (h2 l hl)⟩
      · exact fun h => ⟨fun l hl => stOk_iff.mpr (h l hl).1, fun l hl => stOk_iff.mpr (h l hl).2⟩
    cases hall : ((ls.map (fun l => l.1) ++ ls.map (fun l => l.2)).map (stOk ls.length)).all id with
    | false =>
      refine ⟨false, rfl, iteT (kb (fun z => ?_) HC (s8B.trans sC))⟩
      rw [hiff.mpr (isTxt_eq z esp ok).ok] at hall
      cases hall
    | true =>
    refine ⟨true, rfl, iteF ?_⟩
    have g : GoodL ls := ⟨by
      cases ls with
      | nil => exact absurd rfl hne
      | cons _ _ => simp, by omega, hiff.mp hall⟩
    have hfdC := sC _ _ hfdB
    refine ⟨_, rfl, FD, _, rfl, .inl ⟨SqL.of hfdC, fun p hp => ?_⟩⟩
    exact kg ls g (TS.txt_back esp) p acc _ ((s8B.trans sC).trans (new_ hp)) ((s8B.trans sC).none hp) upd_same ((heB.same sC).same (new_ hp))
end
end PA

set_option maxHeartbeats 8000000
namespace PA
open PySem L2 RZ
open C8 (pss_cut tCut)
open TS (Ln EOk LOk GoodL wS rdW txt rowS numS)
theorem boot_max : bootBuiltins "max" = some (.builtin "max") := by decide +kernel
theorem sm13 {z : Int} (h1 : 1 ≤ z) (h2 : z ≤ 8001) : Sm 9000 z := by
  refine sm9000 (n := 13) ?_ (by decide)
  have e : (2 : Nat) ^ 13 = 8192 := by decide
  show z.natAbs < 2 ^ 13
  rw [e]
  omega
def spChanged : Sp := fun vs H Q _ => ∃ (a l : Addr) (n : Nat) (t : Str), vs = [.ref a, .str t] ∧ StreamAt H a l n ∧ n ≤ 15000 ∧ t.length ≤ 3900 ∧
  ∀ (t' : Str) (n' : Nat) (H' : Hp), t'.length ≤ 2 * t.length + 6 → StreamAt H' a l n' → n' ≤ n + 4 → Keep a l H H' → Q (.str t') H'
abbrev NChg : List Str := ["_law_stream", "_law_text", "_law_at", "_law_kind", "_law_sign"]
theorem sign_len {x : Str} : ∀ v ∈ (L2.signs x).map V.str, ∃ z : Str, v = .str z ∧ z.length ≤ 1 := fun v hv => by
  obtain ⟨z, hz, rfl⟩ := List.mem_map.mp hv
  obtain ⟨c, _, rfl⟩ := List.mem_map.mp hz
  exact ⟨_, rfl, Nat.le_refl _⟩
section
variable {P : Program} {w : World} {K : PySem.W.Frag} {mg : Str → Option Value} {base : Heap} {C X PE_ Fo : Addr}
theorem scChg : FnScope NChg ["_law_stream", "_law_text"] (defScope sChanged) := ⟨rfl, rfl, rfl, by decide +kernel, rfl, by decide +kernel, by decide +kernel⟩
theorem ok_changed {f g1 g2 : Addr} {fd gd1 gd2 : FuncData} (F : Fun K "_law_changed" "_law_changed" sChanged f fd) (T : Txt K mg) (D1 : Df K mg "_law_draw" sDraw g1 gd1 ["_law_stream", "_law_many"]) (D2 : Df K mg "_law_pick" sPick g2 gd2 ["_law_stream", "_law_some"]) : FnOk P w K mg base CX0 3 f fd ["_law_stream", "_law_text"] spChanged := by
  have G1 : FnOk P w K mg base CX0 1 g1 gd1 ["_law_stream", "_law_many"] spDraw := ok_draw D1.F T
  have G2 : FnOk P w K mg base CX0 2 g2 gd2 ["_law_stream", "_law_some"] spPick := ok_pick D2.F T D1
  refine F.ok scChg (fun vs H Q E h => ?_) (fun cdv A outer s H vs Q E hr h => ?_)
  · obtain ⟨a, l, n, t, rfl, _⟩ := h
    rfl
  · obtain ⟨a, l, n, t, rfl, S0, hn, hl, kk⟩ := h
    have hr1 : Room 1 _ := hr.mono (by decide)
    have hr2 : Room 2 _ := hr.mono (by decide)
    refine ⟨_, pss_cons (ps_par (i := 2) (j := 3) (by rfl) scChg.nd rfl rfl (by decide) rfl rfl (pa_cons (pe_call G1 hr1 rfl D1.M D1.F.kp D1.B .nil pass0 (pa_cons (pv 0) (pa_cons (pe_op op_add (pe_callB call_len_str (by rfl) T.len_ PySem.boot_len (pa_cons (pv 1) pa_nil)) pe_int) pa_nil))) (pa_cons (pe_call G1 hr1 rfl D1.M D1.F.kp D1.B .nil pass0 (pa_cons (pv 0) (pa_cons pe_int pa_nil))) pa_nil)) (by rfl))
      (pss_cut (ps_set (i := 4) scChg.nd rfl (Or.inl rfl) (pe_call G2 hr2 rfl D2.M D2.F.kp D2.B .nil pass0 (pa_cons (pv 0) (pa_cons (pe_op op_cat (pe_callTy (call_list_str (by rfl)) (by rfl) T.list_ boot_list' (pa_cons pe_str pa_nil)) (pe_lst (pa_cons pe_str (pa_cons pe_str (pa_cons pe_str pa_nil))))) pa_nil))))
      (pss_cons (ps_if (pt_cmpR op_eq (pv 3) pe_int (nomark _)) (pss_one (ps_ret (pe_op op_add_str (pe_op op_add_str (pe_slice sl_str (pv 1) po_none (po_some (pv 2))) (pv 4)) (pe_slice sl_str (pv 1) (po_some (pv 2)) po_none)))) pss_nil)
      (pss_cons (ps_if (pt_cmpR op_eq (pv 3) pe_int (nomark _)) (pss_one (ps_ret (pe_op op_add_str (pe_slice sl_str (pv 1) po_none (po_some (pv 2))) (pe_slice sl_str (pv 1) (po_some (pe_op op_add (pv 2) pe_int)) po_none)))) pss_nil)
      (pss_cons (ps_if (pt_cmpR op_eq (pv 3) pe_int (nomark _)) (pss_one (ps_ret (pe_op op_add_str (pe_op op_add_str (pe_slice sl_str (pv 1) po_none (po_some (pv 2))) (pv 4)) (pe_slice sl_str (pv 1) (po_some (pe_op op_add (pv 2) pe_int)) po_none)))) pss_nil)
      (pss_cons (ps_if (pt_cmpR op_eq (pv 3) pe_int (nomark _)) (pss_one (ps_ret (pe_op op_add_str (pe_slice sl_str (pv 1) po_none (po_some (pv 2))) (pe_slice sl_str (pv 1) (po_some (pe_callB (call_max2 (by rfl)) (by rfl) T.max_ boot_max (pa_cons pe_int (pa_cons (pe_op op_sub (pv 2) (pe_call G1 hr1 rfl D1.M D1.F.kp D1.B .nil pass0 (pa_cons (pv 0) (pa_cons pe_int pa_nil)))) pa_nil)))) po_none)))) pss_nil)
      (pss_one (ps_ret (pe_op op_add_str (pv 1) (pe_call G2 hr2 rfl D2.M D2.F.kp D2.B .nil pass0 (pa_cons (pv 0) (pa_cons (pe_lst (pa_cons pe_str (pa_cons pe_str (pa_cons pe_str (pa_cons pe_str (pa_cons pe_str (pa_cons pe_str pa_nil))))))) pa_nil))))))))))), ?_⟩
    have szl : ∀ {n : Nat}, n ≤ 20000 → n ≤ sizeLine := fun h => Nat.le_trans h (by decide)
    refine ⟨_, rfl, _, rfl, t, rfl, szl (by omega), _, _, rfl, rfl, a, l, n, _, rfl, S0, by omega, by omega, sm13 (by omega) (by omega), fun at_ H1 a0 a1 S1 k1 => ?_⟩
    refine ⟨_, rfl, a, l, n + 1, 5, rfl, S1, by omega, by decide, sm48 (by decide) (by decide), fun kd H2 d0 d1 S2 k2 => ⟨_, _, rfl, ?_⟩⟩
    have k12 := k1.trans k2
    refine ⟨fun σ' H' => ∃ sg : Str, σ' = [some (.ref a), some (.str t), some (.int at_), some (.int kd), some (.str sg)] ∧ sg.length ≤ 1 ∧ StreamAt H' a l (n + 3) ∧ Keep a l H H', ?_, ?_⟩
    · refine ⟨_, rfl, _, rfl, by decide +kernel, fun q hq => ⟨by show 3 ≤ sizeLine; decide, fun q2 hq2 => ?_⟩⟩
      have s1 := new_ (o := .lst ((L2.signs "0123456789 -;,").map V.str)) hq
      have s2 := new_ (o := .lst [V.str "\n", V.str "+", V.str "x"]) hq2
      have g1 := s2 _ _ (upd_same (H := H2) (a := q) (o := .lst ((L2.signs "0123456789 -;,").map V.str)))
      refine ⟨_, _, _, _, rfl, rfl, g1, upd_same, by decide +kernel, fun q3 hq3 => ?_⟩
      have s3 := new_ (o := .lst ((L2.signs "0123456789 -;,").map V.str ++ [V.str "\n", V.str "+", V.str "x"])) hq3
      have S3 := ((S2.same s1).same s2).same s3
      have hL : (upd (upd (upd H2 q (.lst ((L2.signs "0123456789 -;,").map V.str))) q2 (.lst [V.str "\n", V.str "+", V.str "x"])) q3 (.lst ((L2.signs "0123456789 -;,").map V.str ++ [V.str "\n", V.str "+", V.str "x"]))) q3 = some (.lst ((L2.signs "0123456789 -;,").map V.str ++ [V.str "\n", V.str "+", V.str "x"])) := upd_same
      obtain ⟨Da, Dl⟩ := ((S2.same s1).same s2).ne hq3
      have k3 : Keep a l H _ := k12.trans (Keep.of ((s1.trans s2).trans s3))
      generalize (upd (upd (upd H2 q (.lst ((L2.signs "0123456789 -;,").map V.str))) q2 (.lst [V.str "\n", V.str "+", V.str "x"])) q3 (.lst ((L2.signs "0123456789 -;,").map V.str ++ [V.str "\n", V.str "+", V.str "x"]))) = H3 at S3 hL k3 ⊢
      refine ⟨a, l, q3, _, _, rfl, S3, by omega, hL, Da, Dl, by decide +kernel, by decide +kernel, fun i x H4 hx S4 k4 => ?_⟩
      have hm := List.mem_of_getElem? hx
      obtain ⟨z, rfl, hz⟩ : ∃ z : Str, x = .str z ∧ z.length ≤ 1 := by
        rcases List.mem_append.mp hm with hm | hm
        · exact sign_len x hm
        · simp only [List.mem_cons, List.not_mem_nil, or_false] at hm
          rcases hm with rfl | rfl | rfl
          · exact ⟨_, rfl, by decide +kernel⟩
          · exact ⟨_, rfl, by decide +kernel⟩
          · exact ⟨_, rfl, by decide +kernel⟩
      exact ⟨z, rfl, hz, S4, k3.trans k4⟩
    rintro _ H3 ⟨sg, rfl, hsg, S3, k3⟩
    have c1 : ∀ lo hi, (cutS t lo hi).length ≤ t.length := fun lo hi => cutS_length t lo hi
    refine ⟨_, rfl, rfl, _, rfl, ifD_2 (fun _ => ?_) (fun _ => ?_)⟩
    · refine ⟨_, rfl, _, rfl, _, rfl, t, rfl, szl (by omega), _, rfl, _, _, rfl, rfl, szl ?_, _, rfl, _, rfl, _, rfl, t, rfl, szl (by omega), _, _, rfl, rfl, szl ?_, kk _ _ H3 ?_ S3 (by omega) k3⟩
      · have := c1 none (some at_); omega
      · have := c1 none (some at_); have := c1 (some at_) none; rw [Str.length_append]; omega
      · have := c1 none (some at_); have := c1 (some at_) none; rw [Str.length_append, Str.length_append]; omega
    refine ⟨_, rfl, rfl, _, rfl, ifD_2 (fun _ => ?_) (fun _ => ?_)⟩
    · refine ⟨_, rfl, _, rfl, _, rfl, t, rfl, szl (by omega), _, rfl, _, rfl, _, _, rfl, rfl, _, rfl, t, rfl, szl (by omega), _, _, rfl, rfl, szl ?_, kk _ _ H3 ?_ S3 (by omega) k3⟩
      · have := c1 none (some at_); have := c1 (some (at_ + 1)) none; omega
      · have := c1 none (some at_); have := c1 (some (at_ + 1)) none; rw [Str.length_append]; omega
    refine ⟨_, rfl, rfl, _, rfl, ifD_2 (fun _ => ?_) (fun _ => ?_)⟩
    · refine ⟨_, rfl, _, rfl, _, rfl, t, rfl, szl (by omega), _, rfl, _, _, rfl, rfl, szl ?_, _, rfl, _, rfl, _, _, rfl, rfl, _, rfl, t, rfl, szl (by omega), _, _, rfl, rfl, szl ?_, kk _ _ H3 ?_ S3 (by omega) k3⟩
      · have := c1 none (some at_); omega
      · have := c1 none (some at_); have := c1 (some (at_ + 1)) none; rw [Str.length_append]; omega
      · have := c1 none (some at_); have := c1 (some (at_ + 1)) none; rw [Str.length_append, Str.length_append]; omega
    refine ⟨_, rfl, rfl, _, rfl, ifD_2 (fun _ => ?_) (fun _ => ?_)⟩
    · refine ⟨_, rfl, _, rfl, _, rfl, t, rfl, szl (by omega), _, rfl, _, rfl, _, rfl, a, l, _, 6, rfl, S3, by omega, by decide, sm48 (by decide) (by decide), fun r H4 r0 r1 S4 k4 => ?_⟩
      refine ⟨_, _, rfl, rfl, _, _, rfl, _, rfl, t, rfl, szl (by omega), _, _, rfl, rfl, szl ?_, kk _ _ H4 ?_ S4 (by omega) (k3.trans k4)⟩
      · have := c1 none (some at_); have := cutS_length t (some (if at_ - r > 0 then at_ - r else 0)) none; omega
      · have := c1 none (some at_); have := cutS_length t (some (if at_ - r > 0 then at_ - r else 0)) none; rw [Str.length_append]; omega
    refine ⟨_, rfl, _, rfl, by show 6 ≤ sizeLine; decide, fun q hq => ?_⟩
    have s4 := new_ (o := .lst [V.str "; ", V.str "; - -", V.str "; 0 0", V.str " ", V.str "\n", V.str ";"]) hq
    obtain ⟨qa, ql⟩ := S3.ne hq
    refine ⟨a, l, q, _, _, rfl, S3.same s4, by omega, upd_same, qa, ql, by decide, by decide, fun i x H4 hx S4 k4 => ?_⟩
    obtain ⟨z, rfl, hz⟩ : ∃ z : Str, x = .str z ∧ z.length ≤ 5 := by
      have hm := List.mem_of_getElem? hx
      simp only [List.mem_cons, List.not_mem_nil, or_false] at hm
      rcases hm with rfl | rfl | rfl | rfl | rfl | rfl <;> exact ⟨_, rfl, by decide +kernel⟩
    refine ⟨_, _, rfl, rfl, szl (by omega), kk _ _ H4 ?_ S4 (by omega) ((k3.trans (Keep.of s4)).trans k4)⟩
    rw [Str.length_append]
    omega
end
end PA

set_option maxHeartbeats 4000000
namespace L2
open PySem PySem.Spec PyProof.Rows
/-- a static method, called where an except suite reads the slots -/
def tSMethS (C : Addr) (sp : Sp) (E : St → XK) (ta : TE) (t : TA) : TE := fun σ H Q => ta σ H fun x H1 => x = .ref C ∧ t σ H1 fun vs H2 => sp vs H2 Q (E σ)
theorem pe_smethS {X : Cx} {CX : CXT} {k : Nat} {C p g : Addr} {fd : FuncData} {ps : List Str} {mc : Value} {sp : Sp} {E : St → XK} {o e : PySem.Expr} {es : List PySem.Expr} {m : Str} {pos apos : Pos} {ta : TE} {t : TA} {pl : Sem Bool}
    (ho : PE X o ta) (r : ClX.CRead X.K C mc) (c : SMet X.K C mc m p g) (F : FnOk X.prog X.w X.K X.mg X.base CX k g fd ps sp) (hr : Room k X.A) (kp : PySem.W.keepIn X.K (.ref g) = true) (hb : Binds X.K fd ps []) (hx : ∀ σ, PassesAt CX X σ (E σ)) (ha : PA X (e :: es) t)
    (hs : starEach (e :: es) X.env = (false, eval e X.env) :: starEach es X.env := by rfl) (hpl : ((backTo pos (starEach es X.env)).any fun x => x.fst) = false := by rfl)
    (he : eval ((o.Attribute m apos).Call (e :: es) [] pos) X.env = (do
      let ov ← eval o X.env
      standAt apos.atName
      let __x ← holding [ov] (getMethod ov m pl)
      match __x with
      | (f, first) => callWith pos f first (backTo pos (starEach (e :: es) X.env)) (backToKw pos (keywordEach [] X.env))) := by rfl) :
    PE X ((o.Attribute m apos).Call (e :: es) [] pos) (tSMethS C sp E ta t) := by
  refine ⟨fun pins s σ H Q I h => PySem.W.methodCall_KW (pl := pl) (thn (ho.run pins s σ H _ I h) fun v s1 q => ?_) he⟩
  obtain ⟨x, H1, I1, rx, rfl, q⟩ := q
  cases rx
  refine getmethsm_ok I1 r c fun s2 I2 => ?_
  refine PySem.W.callWith_K I2.ok.mod.kin kp (thn (ha.run pos pins s2 σ H1 _ I2 q) fun us s3 q3 => ?_) hs hpl
  obtain ⟨vs, H3, I3, rv, q3⟩ := q3
  exact ⟨I3.kIn, run_fnS F hr hb (hx σ) I3 rv q3⟩
end L2

set_option maxHeartbeats 8000000
namespace PA
open PySem L2 RZ
open C8 (pss_cut tCut)
open TS (Ln EOk LOk GoodL wS rdW txt rowS numS)
theorem pe_fldF {X : Cx} {K : PySem.W.Frag} (hK : X.K = K) {e : PySem.Expr} {f : Str} {pos : Pos} {ta : TE} (h : PE X e ta) (h2 : attributeBase e f X.env (eval e X.env) = eval e X.env := by rfl) : PE X (e.Attribute f pos) (tFld K ta f) := by
  subst hK
  exact pe_fld h h2
/-! ### data of lines -/
def dE : Option Nat → PyData
  | none => .none
  | some n => .int (n : Int)
def rd (l : Ln) : PyData := .list [dE l.1, dE l.2]
theorem dp_ev {K : PySem.W.Frag} {H : Hp} (o : Option Nat) : Dp K H (ev o) (dE o) := by
  cases o with
  | none => exact .non
  | some n => exact .int _
theorem rds_dp {K : PySem.W.Frag} {H : Hp} : ∀ {xs : List V} {ls : List Ln}, Ea H (fun H c r => H c = some (.lst r)) xs (ls.map lv) → DpAll K H xs (ls.map rd)
  | [], [], _ => .nil
  | [], _ :: _, e => by cases e.1
  | _ :: _, [], e => by cases e.1
  | x :: xs, r :: rows, e => by
    obtain ⟨c, hx, q⟩ := e.2 0 x (lv r) rfl rfl
    subst hx
    exact .cons (.lst (SqL.of q) (.cons (dp_ev _) (.cons (dp_ev _) .nil))) (rds_dp ⟨by have := e.1; simpa using this, fun i y s h1 h2 => e.2 (i + 1) y s (by simpa using h1) (by simpa using h2)⟩)
theorem dE_lay (o : Option Nat) : (dE o).canLay0 = true := by cases o <;> simp [dE, PyData.canLay0]
theorem dE_depth (o : Option Nat) : PyData.depth (dE o) ≤ 1 := by cases o <;> simp [dE, PyData.depth]
theorem rds_lay : ∀ rows : List Ln, PyData.canLayAll0 (rows.map rd) = true
  | [] => by simp [PyData.canLayAll0]
  | r :: rows => by simp [PyData.canLayAll0, rd, PyData.canLay0, dE_lay, rds_lay rows]
theorem rds_depth : ∀ rows : List Ln, PyData.depthAll (rows.map rd) ≤ 4
  | [] => by simp [PyData.depthAll]
  | r :: rows => by
    have h1 := rds_depth rows
    have h2 := dE_depth r.1
    have h3 := dE_depth r.2
    simp only [List.map_cons, PyData.depthAll, rd, PyData.depth]
    omega
theorem rds_shaped (rows : List Ln) : SeqAt.shaped (.list (rows.map rd)) = true := by
  have h1 := rds_depth rows
  have h2 : PyData.depth (.list (rows.map rd)) ≤ 64 := by
    simp only [PyData.depth]
    omega
  show (PyData.canLay0 (.list (rows.map rd)) && decide (PyData.depth (.list (rows.map rd)) ≤ 64)) = true
  rw [Bool.and_eq_true]
  exact ⟨by simp only [PyData.canLay0]; exact rds_lay rows, decide_eq_true h2⟩
theorem rds_eqv (rows : List Ln) : PyData.eqv (.list (rows.map rd)) (.list (rows.map rd)) = true := SeqAt.eqv_refl _ (by simp only [PyData.canLay0]; exact rds_lay rows)
/-- lines by their cells -/
theorem ea_map {P : Hp → Addr → Ln → Prop} {P' : Hp → Addr → List V → Prop} {H : Hp} {refs : List V} {ls : List Ln} (e : Ea H P refs ls) (f : ∀ c l, P H c l → P' H c (lv l)) : Ea H P' refs (ls.map lv) :=
  ⟨by rw [List.length_map]; exact e.1, fun i x r h1 h2 => by
    rw [List.getElem?_map, Option.map_eq_some_iff] at h2
    obtain ⟨l, h2, rfl⟩ := h2
    obtain ⟨c, hx, q⟩ := e.2 i x l h1 h2
    exact ⟨c, hx, f c l q⟩⟩
theorem ea_unmap {H : Hp} {refs : List V} {ls : List Ln} (e : Ea H isC refs (ls.map lv)) : Ea H isLn refs ls :=
  ⟨by have := e.1; rwa [List.length_map] at this, fun i x r h1 h2 => e.2 i x (lv r) h1 (by rw [List.getElem?_map, h2]; rfl)⟩
theorem two_ls {K : PySem.W.Frag} {H : Hp} {t1 t2 : Addr} {xs ys : List V} {ls : List Ln} (h1 : H t1 = some (.tup xs)) (h2 : H t2 = some (.tup ys)) (e1 : Ea H isLn xs ls) (e2 : Ea H isLn ys ls) (h48 : ls.length ≤ 48) : Two K H 2 (.ref t1) (.ref t2) := by
  have l1 : xs.length = ls.length := e1.1
  have l2 : ys.length = ls.length := e2.1
  refine .tup (SqT.of h1) (SqT.of h2) (by omega) (by rw [l1]; exact Nat.le_trans h48 (by decide)) fun i x y hx hy => ?_
  obtain ⟨c, l, rfl, hl, hc⟩ := e1.at_ hx
  obtain ⟨c', rfl, hc'⟩ := e2.2 i y l hy hl
  refine .tup (SqT.of hc) (SqT.of hc') rfl (by show 2 ≤ sizeLine; decide) fun j u v hu hv => ?_
  rw [hu] at hv
  cases hv
  have hm := List.mem_of_getElem? hu
  simp only [lv, List.mem_cons, List.not_mem_nil, or_false] at hm
  rcases hm with rfl | rfl
  · cases l.1 with
    | none => exact .non _
    | some n => exact .int _ _
  · cases l.2 with
    | none => exact .non _
    | some n => exact .int _ _
theorem RowsAt.nl {C : Addr} {H H' : Hp} {p : Addr} {rows : List (List V)} (m : RowsAt C H p rows) (nl : ∀ c o, H c = some o → (∀ xs, o ≠ .lst xs) → H' c = some o) : RowsAt C H' p rows := by
  obtain ⟨dx, T, refs, h1, h2, h3⟩ := m
  exact ⟨dx, T, refs, nl _ _ h1 (by intro xs e; cases e), nl _ _ h2 (by intro xs e; cases e), h3.imp fun c r q => nl _ _ q (by intro xs e; cases e)⟩
/-- how the law stands: the stream, the lines, the row set -/
structure LA (C : Addr) (H : Hp) (sa sl L p : Addr) (refs : List V) (ls : List Ln) (n : Nat) : Prop where
  st : StreamAt H sa sl n
  hL : H L = some (.lst refs)
  eL : Ea H isLn refs ls
  aL : L ≠ sa ∧ L ≠ sl
  rs : RowsAt C H p (ls.map lv)
section
variable {C : Addr} {H H' : Hp} {sa sl L p : Addr} {refs : List V} {ls : List Ln} {n m : Nat}
theorem LA.kept (l : LA C H sa sl L p refs ls n) (S : StreamAt H' sa sl m) (k : Keep sa sl H H') : LA C H' sa sl L p refs ls m :=
  ⟨S, k _ _ l.aL.1 l.aL.2 l.hL, EaKp l.eL l.st k, l.aL, l.rs.nl fun c o e nl => by
    obtain ⟨_, ns', x', z', w1, w2, _⟩ := id l.st
    exact k _ _ (ne_of e w1 (nl _)) (ne_of e w2 (nl _)) e⟩
theorem LA.same (l : LA C H sa sl L p refs ls n) (s : Same H H') : LA C H' sa sl L p refs ls n := l.kept (l.st.same s) (Keep.of s)
theorem LA.lst (l : LA C H sa sl L p refs ls n) {q : Addr} {xs ys : List V} (hq : H q = some (.lst xs)) (qa : q ≠ sa) (ql : q ≠ sl) (qL : q ≠ L) : LA C (upd H q (.lst ys)) sa sl L p refs ls n :=
  ⟨l.st.lst hq qa ql, by rw [upd_ne qL.symm]; exact l.hL, l.eL.imp fun c r z => TupOf.lst (f := lv) z hq, l.aL, l.rs.nl fun c o e nl => by rw [upd_ne (ne_of e hq (nl _))]; exact e⟩
end
theorem iteNo {b : Bool} {P Q : Prop} (hb : b = false) (h : Q) : if b = true then P else Q := by rw [hb]; exact h
/-- a list or a tuple, by its kind -/
def GK (k : _root_.L2.Kind) (H : Hp) (G : Addr) (xs : List V) : Prop := match k with
  | .l => H G = some (.lst xs)
  | .t => H G = some (.tup xs)
theorem GK.sk {K : PySem.W.Frag} {k : _root_.L2.Kind} {H : Hp} {G : Addr} {xs : List V} (h : GK k H G xs) : Sk K k H G xs := by
  cases k
  · exact SqL.of h
  · exact SqT.of h
theorem GK.same {k : _root_.L2.Kind} {H H' : Hp} {G : Addr} {xs : List V} (h : GK k H G xs) (s : Same H H') : GK k H' G xs := by
  cases k
  · exact s _ _ h
  · exact s _ _ h
theorem GK.set {k : _root_.L2.Kind} {H : Hp} {G c : Addr} {xs ys zs : List V} (h : GK k H G xs) (hc : H c = some (.lst ys)) (n : c ≠ G) : GK k (upd H c (.lst zs)) G xs := by
  cases k
  · show _ = _
    rw [upd_ne n.symm]
    exact h
  · show _ = _
    rw [upd_ne (ne_of (show H G = some (.tup xs) from h) hc (by intro z; cases z))]
    exact h
/-- a row that was handed in -/
def RowX (N : List Addr) (H : Hp) (c : Addr) : Prop := (∃ xs, H c = some (.tup xs)) ∨ (c ∉ N ∧ ∃ ys, H c = some (.lst ys) ∧ ys.length = 2)
theorem RowX.set {N : List Addr} {H : Hp} {c q : Addr} {xs ys : List V} (r : RowX N H c) (hq : H q = some (.lst xs)) (hy : ys.length = 2) : RowX N (upd H q (.lst ys)) c := by
  rcases r with ⟨zs, h⟩ | ⟨nn, zs, h, hl⟩
  · exact .inl ⟨zs, by rw [upd_ne (ne_of h hq (by intro z; cases z))]; exact h⟩
  · by_cases e : c = q
    · subst e
      exact .inr ⟨nn, ys, upd_same, hy⟩
    · exact .inr ⟨nn, zs, by rw [upd_ne e]; exact h, hl⟩
structure Prog (K : PySem.W.Frag) (mg : Str → Option Value) (C X PE_ Fo fI g1 g2 g3 g4 fS s1 r1 c1 fR pR fDraw fStart fPick fSame fHand fEntry fLines fLE fRdg fChg fFlt : Addr) (mc : Value) (dI gd1 gd2 gd3 gd4 dS sd1 rd1 dR dDraw dStart dPick dSame dHand dEntry dLines dLE dRdg dChg dFlt : FuncData) : Prop where
  L : LibR K mg C X PE_ Fo fI g1 g2 g3 g4 fS s1 r1 dI gd1 gd2 gd3 gd4 dS sd1 rd1
  TE : TxtE K mg X c1
  FR : Fun K "read" "RowSet.read" sRead fR dR
  bR : Binds K dR ["text"] []
  cr : ClX.CRead K C mc
  sm : SMet K C mc "read" pR fR
  draw : Df K mg "_law_draw" sDraw fDraw dDraw ["_law_stream", "_law_many"]
  start : Df K mg "_law_start" sStart fStart dStart ["_law_script"]
  pick : Df K mg "_law_pick" sPick fPick dPick ["_law_stream", "_law_some"]
  same : Df K mg "_law_same" sSame fSame dSame ["_law_found", "_law_due"]
  hand : Df K mg "_law_m_handed" sHanded fHand dHand ["_law_stream", "_law_rows"]
  entry : Df K mg "_law_m_entry" sEntry fEntry dEntry ["_law_stream", "_law_size"]
  lines : Df K mg "_law_m_lines" sLines fLines dLines ["_law_stream", "_law_most"]
  lentry : Df K mg "_law_entry" sLEntry fLE dLE ["_law_entry_here"]
  rdg : Df K mg "_law_reading" sReading fRdg dRdg ["_law_text"]
  chg : Df K mg "_law_changed" sChanged fChg dChg ["_law_stream", "_law_text"]
  flt : Df K mg "_law_fault" sFault fFlt dFlt ["_law_stream", "_law_lines"]
def spLaw (K : PySem.W.Frag) : Sp := fun vs H Q _ => ∃ (a : Addr) (ns : List Int), vs = [.ref a] ∧ SqL K H a (ns.map V.int) ∧ ns.length ≤ 63 ∧ ∀ H', Q (.bl true) H'
abbrev NLw : List Str := ["_law_script", "_law_stream", "_law_lines", "_law_given", "_law_before", "_law_made", "_law_row", "_law_due", "_law_text", "_law_turn", "_law_other", "_law_k", "_law_found", "_law_low", "_law_high"]
section
variable {P : Program} {w : World} {K : PySem.W.Frag} {mg : Str → Option Value} {base : Heap}
theorem scLaw : FnScope NLw ["_law_script"] (defScope sLaw) := ⟨rfl, rfl, rfl, by decide +kernel, rfl, by decide +kernel, by decide +kernel⟩
theorem ok_law {f C X PE_ Fo fI g1 g2 g3 g4 fS s1 r1 c1 fR pR fDraw fStart fPick fSame fHand fEntry fLines fLE fRdg fChg fFlt : Addr} {mc : Value} {fd dI gd1 gd2 gd3 gd4 dS sd1 rd1 dR dDraw dStart dPick dSame dHand dEntry dLines dLE dRdg dChg dFlt : FuncData} (F : Fun K "law" "law" sLaw f fd)
    (G : Prog K mg C X PE_ Fo fI g1 g2 g3 g4 fS s1 r1 c1 fR pR fDraw fStart fPick fSame fHand fEntry fLines fLE fRdg fChg fFlt mc dI gd1 gd2 gd3 gd4 dS sd1 rd1 dR dDraw dStart dPick dSame dHand dEntry dLines dLE dRdg dChg dFlt) : FnOk P w K mg base CX0 9 f fd ["_law_script"] (spLaw K) := by
  have L := G.L
  have T := L.T
  have TX := L.TX
  have TC := L.TC
  have GI : FnOk P w K mg base (L2.CX P w) 5 fI dI ["self", "rows"] (spInit C X) := ok_init L.I T TC TX L.D1 L.D2 L.D3 L.D4
  have GS : FnOk P w K mg base CX0 2 fS dS ["self"] (spStr C) := ok_str L.FS T TC L.S1
  have GR : FnOk P w K mg base (L2.CX P w) 7 fR dR ["text"] (spRead C X) := ok_read G.FR L
  have GDraw : FnOk P w K mg base CX0 1 fDraw dDraw ["_law_stream", "_law_many"] spDraw := ok_draw G.draw.F T
  have GStart : FnOk P w K mg base CX0 1 fStart dStart ["_law_script"] (spStart K) := ok_start G.start.F T
  have GSame : FnOk P w K mg base CX0 3 fSame dSame ["_law_found", "_law_due"] (spSame K 2) := ok_same G.same T 2
  have GHand : FnOk P w K mg base CX0 2 fHand dHand ["_law_stream", "_law_rows"] spHanded := ok_handed G.hand.F T G.draw
  have GLines : FnOk P w K mg base CX0 3 fLines dLines ["_law_stream", "_law_most"] spLines := ok_lines G.lines.F T G.draw G.entry
  have GLE : FnOk P w K mg base CX0 1 fLE dLE ["_law_entry_here"] spWord := ok_lentry G.lentry.F T
  have GRdg : FnOk P w K mg base CX0 1 fRdg dRdg ["_law_text"] spReading := ok_reading G.rdg.F T
  have GChg : FnOk P w K mg base CX0 3 fChg dChg ["_law_stream", "_law_text"] spChanged := ok_changed G.chg.F T G.draw G.pick
  have GFlt : FnOk P w K mg base CX0 8 fFlt dFlt ["_law_stream", "_law_lines"] spFault := ok_fault G.flt.F L G.TE G.draw G.pick G.hand
  refine F.ok scLaw (fun vs H Q E h => ?_) (fun cdv A outer s H vs Q E hr h => ?_)
  · obtain ⟨a, ns, rfl, _⟩ := h
    rfl
  · obtain ⟨a, ns, rfl, hS, hlen, kk⟩ := h
    have hr1 : Room 1 _ := hr.mono (by decide)
    have hr2 : Room 2 _ := hr.mono (by decide)
    have hr3 : Room 3 _ := hr.mono (by decide)
    have hr4 : Room 4 _ := hr.mono (by decide)
    have hr6 : Room 6 _ := hr.mono (by decide)
    have hr7 : Room 7 _ := hr.mono (by decide)
    refine ⟨_, pss_cons (ps_set (i := 1) scLaw.nd rfl (Or.inl rfl) (pe_call GStart hr1 rfl G.start.M G.start.F.kp G.start.B .nil pass0 (pa_cons (pv 0) pa_nil)))
      (pss_cons (ps_set (i := 2) scLaw.nd rfl (Or.inl rfl) (pe_call GLines hr3 rfl G.lines.M G.lines.F.kp G.lines.B .nil pass0 (pa_cons (pv 1) (pa_cons (pe_ix ix_list (pe_lst (pa_cons pe_int (pa_cons pe_int (pa_cons pe_int pa_nil)))) (pe_call GDraw hr1 rfl G.draw.M G.draw.F.kp G.draw.B .nil pass0 (pa_cons (pv 1) (pa_cons pe_int pa_nil))) (fun _ _ => rfl)) pa_nil))))
      (pss_cons (ps_set (i := 3) scLaw.nd rfl (Or.inl rfl) (pe_call GHand hr2 rfl G.hand.M G.hand.F.kp G.hand.B .nil pass0 (pa_cons (pv 1) (pa_cons (pv 2) pa_nil))))
      (pss_cons (ps_setLc (i := 4) (own := [("_law_row", 6)]) (g := gName 6) (tt := tYes) (by rfl) scLaw.nd rfl rfl (sw_true rfl rfl rfl (by decide +kernel)) (pi_sq (pv 3)) (blkOk_by (N := NLw) (sc := defScope sLaw) (by decide +kernel))
          (fun _ _ _ _ _ => pg_name (i := 6) scLaw.nd rfl (Or.inl rfl)) (fun _ _ _ _ _ => pts_nil)
          (fun _ _ _ _ _ => pe_callTy (call_listK (K := K) rfl) (by rfl) T.list_ boot_list' (pa_cons (pv 6) pa_nil)))
      (pss_cons (ps_set (i := 5) scLaw.nd rfl (Or.inl rfl) (pe_make (E := E0) L.M GI hr6 rfl TC.mgC L.bI .nil passL (pa_cons (pv 3) pa_nil)))
      (pss_cut (ps_if (pt_cmpR (op_neD hr.units) (pe_lc (own := [("_law_row", 6)]) (g := gName 6) (tt := tYes) (by rfl) scLaw.nd (pi_sq (pv 3)) (blkOk_by (N := NLw) (sc := defScope sLaw) (by decide +kernel))
          (fun _ _ _ _ _ => pg_name (i := 6) scLaw.nd rfl (Or.inl rfl)) (fun _ _ _ _ _ => pts_nil)
          (fun _ _ _ _ _ => pe_callTy (call_listK (K := K) rfl) (by rfl) T.list_ boot_list' (pa_cons (pv 6) pa_nil))) (pv 4) (nomark _)) pss_never pss_nil)
      (pss_cut (ps_for PassesOwn.never rfl (pi_sq (pv 3)) (pg_name (i := 6) scLaw.nd rfl (Or.inl rfl))
        (pss_one (ps_if (pt_val (pe_callB call_isi (by rfl) T.isi boot_isi (pa_cons (pv 6) (pa_cons (pe_bltn (v := .ty "list") (by rfl) T.list_ boot_list' rfl) pa_nil)))) (pss_one (ps_asg pe_int (pg_sub (pv 6) pe_int set_list))) pss_nil)))
      (pss_cons (ps_set (i := 7) scLaw.nd rfl (Or.inl rfl) (pe_callTy call_tuple_of (by rfl) T.tup_ boot_tuple' (pa_cons (pv 2) pa_nil)))
      (pss_cons (ps_set (i := 8) scLaw.nd rfl (Or.inl rfl) (pe_join pe_str (pe_lc (own := [("_law_low", 13), ("_law_high", 14)]) (g := gTup K 2 (gCons (gName 13) (gCons (gName 14) gNil))) (tt := tYes) (by rfl) scLaw.nd (pi_list (pv 2)) (blkOk_by (N := NLw) (sc := defScope sLaw) (by decide +kernel))
          (fun _ _ _ _ _ => by exact pg_tup rfl (pgs_cons (pg_name (i := 13) scLaw.nd rfl (Or.inl rfl)) (pgs_cons (pg_name (i := 14) scLaw.nd rfl (Or.inl rfl)) pgs_nil))) (fun _ _ _ _ _ => pts_nil)
          (fun _ _ _ _ _ => pe_op op_add_str (pe_op op_add_str (pe_call GLE hr1 rfl G.lentry.M G.lentry.F.kp G.lentry.B .nil pass0 (pa_cons (pv 13) pa_nil)) pe_str) (pe_call GLE hr1 rfl G.lentry.M G.lentry.F.kp G.lentry.B .nil pass0 (pa_cons (pv 14) pa_nil))))))
      (pss_cut (ps_if (PW.pt (pw_or (pt_not (pt_val (pe_call GSame hr3 rfl G.same.M G.same.F.kp G.same.B .nil pass0 (pa_cons (pe_fld (pv 5) rfl) (pa_cons (pv 7) pa_nil))))) (pw_or1 (pt_cmpR op_ne (pe_callTy (call_strOwn (E := E0) L.mS.at_ L.mS.fn GS hr4 L.bS pass0) (by rfl) T.str_ boot_str' (pa_cons (pv 5) pa_nil)) (pv 8) (nomark _))))) pss_never pss_nil)
      (pss_cut (ps_if (PW.pt (pw_or (pt_not (pt_val (pe_call GSame hr3 rfl G.same.M G.same.F.kp G.same.B .nil pass0 (pa_cons (pe_fld (pe_smeth (E := E0) (pl := _) (pe_glob (v := .ref C) rfl TC.mgC rfl) G.cr G.sm GR hr7 G.FR.kp G.bR passL (pa_cons (pv 8) pa_nil)) rfl) (pa_cons (pv 7) pa_nil))))) (pw_or1 (pt_not (pt_val (pe_call GFlt hr rfl G.flt.M G.flt.F.kp G.flt.B .nil pass0 (pa_cons (pv 1) (pa_cons (pv 2) pa_nil)))))))) pss_never pss_nil)
      (pss_cut (ps_for PassesOwn.never rfl (pi_range1 (by rfl) T.range_ (pa_cons pe_int pa_nil)) (pg_name (i := 9) scLaw.nd rfl (Or.inl rfl))
        (pss_cons (ps_set (i := 10) scLaw.nd rfl (Or.inl rfl) (pv 8))
        (pss_cut (ps_for PassesOwn.never rfl (pi_range1 (by rfl) T.range_ (pa_cons (pe_op op_add pe_int (pe_call GDraw hr1 rfl G.draw.M G.draw.F.kp G.draw.B .nil pass0 (pa_cons (pv 1) (pa_cons pe_int pa_nil)))) pa_nil)) (pg_name (i := 11) scLaw.nd rfl (Or.inl rfl))
          (pss_one (ps_set (i := 10) scLaw.nd rfl (Or.inl rfl) (pe_call GChg hr3 rfl G.chg.M G.chg.F.kp G.chg.B .nil pass0 (pa_cons (pv 1) (pa_cons (pv 10) pa_nil))))))
        (pss_cut (ps_try_only (Wout := fun _ _ _ _ => False) rfl rfl ⟨by rfl, by decide, .inl TX.g⟩ takes0
            (fun W pn xe tk _ => pss_one (ps_set (i := 12) scLaw.nd rfl (Or.inl rfl) (pe_fldF (K := K) rfl (pe_smethS (E := WE W) (pl := _) (pe_glob (v := .ref C) rfl TC.mgC rfl) G.cr G.sm GR hr7 G.FR.kp G.bR (fun σ => passAt tk σ) (pa_cons (pv 10) pa_nil)) rfl)))
            (fun a oe cls d pn hz hf => pss_one (ps_set (i := 12) scLaw.nd rfl (Or.inl rfl) pe_non)))
        (pss_cons (ps_set (i := 7) scLaw.nd rfl (Or.inl rfl) (pe_call GRdg hr1 rfl G.rdg.M G.rdg.F.kp G.rdg.B .nil pass0 (pa_cons (pv 10) pa_nil)))
        (pss_one (ps_if (PW.pt (pw_or (PW.pt (pw_and (pt_cmpR op_isN (pv 7) pe_non (nomark _)) (pw_and1 (pt_cmpR op_notN (pv 12) pe_non (nomark _))))) (pw_or1 (PW.pt (pw_and (pt_cmpR op_notN (pv 7) pe_non (nomark _)) (pw_and1 (pt_not (pt_val (pe_call GSame hr3 rfl G.same.M G.same.F.kp G.same.B .nil pass0 (pa_cons (pv 12) (pa_cons (pv 7) pa_nil))))))))))) pss_never pss_nil)))))))
      (pss_one (ps_ret (pe_cmpR op_eq (pe_callTy (call_strOwn (E := E0) L.mS.at_ L.mS.fn GS hr4 L.bS pass0) (by rfl) T.str_ boot_str' (pa_cons (pv 5) pa_nil)) (pv 8) (nomark _))))))))))))))), ?_⟩
    refine ⟨_, rfl, a, ns, rfl, hS, hlen, fun sa sl H1 S1 _ _ _ => ?_⟩
    refine ⟨_, rfl, by show 3 ≤ sizeLine; decide, fun q hq => ⟨_, rfl, sa, sl, 0, 3, rfl, S1.same (new_ hq), by decide, by decide, sm48 (by decide) (by decide), fun r H2 r0 r1 S2 k2 => ?_⟩⟩
    obtain ⟨qa, ql⟩ := S1.ne hq
    obtain ⟨mo, hmo, mo1, mo48⟩ : ∃ m : Int, atI [V.int 4, V.int 12, V.int 48] r = some (.int m) ∧ 1 ≤ m ∧ m ≤ 48 := by
      have : r = 0 ∨ r = 1 ∨ r = 2 := by omega
      rcases this with rfl | rfl | rfl
      · exact ⟨4, rfl, by decide, by decide⟩
      · exact ⟨12, rfl, by decide, by decide⟩
      · exact ⟨48, rfl, by decide, by decide⟩
    refine ⟨q, _, r, _, rfl, rfl, SqL.of (k2 _ _ qa ql upd_same), hmo, sa, sl, 1, mo, rfl, S2, by decide, mo1, mo48, fun LL refs ls n3 H3 hL hL0 La Ll hE gd S3 hn3 k3 => ?_⟩
    have h48 := gd.most
    refine ⟨_, rfl, _, rfl, sa, sl, LL, n3, refs, ls.map lv, rfl, S3, by omega, hL, La, Ll, ea_map hE fun c l z => .inl z, by rw [List.length_map]; omega, fun GV rG n4 H4 hG hEG hGn S4 hn4 k4 => ?_⟩
    have hL4 := k4 _ _ La Ll hL
    have hE4 := EaKp hE S3 k4
    have hrG : rG.length = ls.length := by rw [hEG.1, List.length_map]
    obtain ⟨kG, hkG⟩ : ∃ k, GK k H4 GV rG := by
      rcases hG with hG | hG
      · exact ⟨.l, hG⟩
      · exact ⟨.t, hG⟩
    have LGn : LL ≠ GV := ne_of_none hL hGn
    obtain ⟨Ga, Gl_⟩ := S3.ne hGn
    -- the copies
    refine ⟨kG, _, rfl, GV, rfl, ⟨_, hkG.sk⟩, fun BF hBF => ?_⟩
    refine lc_acc (xs := rG) (walk_k (k := kG)) (by rw [hrG]; exact Nat.le_trans h48 (by decide)) hBF (fun H' s' => (hkG.same s').sk) (fun i acc H' => Ea H' (fun H c r => H c = some (.lst r) ∧ c ≠ BF) acc ((ls.map lv).take i)) (fun i acc H' e => by rw [e.1, List.length_take, List.length_map]; omega) (by rw [List.take_zero]; exact Ea.nil) (fun i x H' acc Φ Ψ hi hx sm hd he kf => ?_) fun H5 accB s5 hdB heB => ?_
    · obtain ⟨c, r, rfl, hr', hc⟩ := hEG.at_ hx
      refine ⟨rfl, ?_⟩
      dsimp only [tYes]
      rw [if_pos rfl]
      have hc' : SqL K H' c r ∨ SqT K H' c r := by
        rcases hc with hc | ⟨_, hc⟩
        · exact .inr (SqT.of (sm _ _ hc))
        · exact .inl (SqL.of (sm _ _ hc))
      refine ⟨_, rfl, c, _, rfl, hc', fun q hq => ?_⟩
      have sq := new_ (o := .lst r) hq
      have qB : q ≠ BF := (ne_of_none hd hq).symm
      refine kf _ _ sq (sq _ _ hd) fun H5 h5 b1 b2 => ?_
      rw [take_succ' hr']
      exact Ea.push (he.imp fun c' r' z => ⟨b1 _ _ z.2 (sq _ _ z.1), z.2⟩) ⟨b1 _ _ qB upd_same, qB⟩
    rw [hrG, List.take_of_length_le (by rw [List.length_map]; exact Nat.le_refl _)] at heB
    have hG5 := hG.imp (fun q => s5 _ _ q) (fun q => s5 _ _ q)
    have hEG5 : Ea H5 (TLx [sa, sl, LL, GV]) rG (ls.map lv) := hEG.imp fun c r z => z.same s5
    -- the row set
    refine ⟨_, rfl, fun p dx nx ndx nex => mk_rows (C := C) (X := X) hG5 (hEG5.imp fun c r z => z.tl) (by rw [List.length_map]; omega) (fun r hr x hx => ?_) nx ndx nex (fun ok H6 s6 rs6 => ⟨rfl, ?_⟩) fun bad => absurd (bad.symm.trans (tab_lv.mpr gd)) (by decide)⟩
    · obtain ⟨l, _, rfl⟩ := List.mem_map.mp hr
      simp only [lv, List.mem_cons, List.not_mem_nil, or_false] at hx
      rcases hx with rfl | rfl <;> exact cell_ev _
    have s46 := s5.trans s6
    have la : LA C H6 sa sl LL p refs ls n4 := ⟨S4.same s46, s46 _ _ hL4, hE4.same s46, ⟨La, Ll⟩, rs6⟩
    have hk6 := (hkG.same s5).same s6
    have hX6 : ∀ v ∈ rG, ∃ c, v = .ref c ∧ RowX [sa, sl, LL, GV] H6 c := fun v hv => by
      obtain ⟨i, hi⟩ := List.getElem?_of_mem hv
      obtain ⟨c, r, rfl, hr', hc⟩ := hEG.at_ hi
      rw [List.getElem?_map, Option.map_eq_some_iff] at hr'
      obtain ⟨l, _, rfl⟩ := hr'
      refine ⟨c, rfl, ?_⟩
      rcases hc with hc | ⟨hn, hc⟩
      · exact .inl ⟨_, s46 _ _ hc⟩
      · exact .inr ⟨hn, _, s46 _ _ hc, rfl⟩
    refine ⟨fun σ' H' => σ' = [some (.ref a), some (.ref sa), some (.ref LL), some (.ref GV), some (.ref BF), some (.ref p), none, none, none, none, none, none, none, none, none] ∧ Same H6 H', ?_, ?_⟩
    · refine ⟨kG, _, rfl, GV, rfl, ⟨_, hk6.sk⟩, fun De hDe => ?_⟩
      refine lc_acc (xs := rG) (walk_k (k := kG)) (by rw [hrG]; exact Nat.le_trans h48 (by decide)) hDe (fun H' s' => (hk6.same s').sk) (fun i acc H' => Ea H' (fun H c r => H c = some (.lst r) ∧ c ≠ De) acc ((ls.map lv).take i)) (fun i acc H' e => by rw [e.1, List.length_take, List.length_map]; omega) (by rw [List.take_zero]; exact Ea.nil) (fun i x H' acc Φ Ψ hi hx sm hd he kf => ?_) fun H7 accE s7 hdE heE => ?_
      · obtain ⟨c, r, rfl, hr', hc⟩ := hEG.at_ hx
        refine ⟨rfl, ?_⟩
        dsimp only [tYes]
        rw [if_pos rfl]
        have hc' : SqL K H' c r ∨ SqT K H' c r := by
          rcases hc with hc | ⟨_, hc⟩
          · exact .inr (SqT.of (sm _ _ (s46 _ _ hc)))
          · exact .inl (SqL.of (sm _ _ (s46 _ _ hc)))
        refine ⟨_, rfl, c, _, rfl, hc', fun q hq => ?_⟩
        have sq := new_ (o := .lst r) hq
        have qB : q ≠ De := (ne_of_none hd hq).symm
        refine kf _ _ sq (sq _ _ hd) fun H5 h5 b1 b2 => ?_
        rw [take_succ' hr']
        exact Ea.push (he.imp fun c' r' z => ⟨b1 _ _ z.2 (sq _ _ z.1), z.2⟩) ⟨b1 _ _ qB upd_same, qB⟩
      rw [hrG, List.take_of_length_le (by rw [List.length_map]; exact Nat.le_refl _)] at heE
      refine ⟨_, rfl, .list (ls.map rd), .list (ls.map rd), .lst (SqL.of hdE) (rds_dp (heE.imp fun c r z => z.1)), .lst (SqL.of (s7 _ _ (s6 _ _ hdB))) (rds_dp (heB.imp fun c r z => s7 _ _ (s6 _ _ z.1))), rds_shaped ls, rds_shaped ls, _, rfl, ?_⟩
      rw [rds_eqv]
      exact iteF ⟨rfl, s7⟩
    rintro _ H7 ⟨rfl, s67⟩
    have la := la.same s67
    have hk7 := hk6.same s67
    have hX7 : ∀ v ∈ rG, ∃ c, v = .ref c ∧ RowX [sa, sl, LL, GV] H7 c := fun v hv => by
      obtain ⟨c, e, z⟩ := hX6 v hv
      refine ⟨c, e, z.imp (fun ⟨xs, z⟩ => ⟨xs, s67 _ _ z⟩) fun ⟨n, ys, z, l⟩ => ⟨n, ys, s67 _ _ z, l⟩⟩
    clear hEG5 hG5 hX6 hk6 heB hdB hE4 hL4
    refine ⟨fun σ' H' => ∃ x6, σ' = [some (.ref a), some (.ref sa), some (.ref LL), some (.ref GV), some (.ref BF), some (.ref p), x6, none, none, none, none, none, none, none, none] ∧ LA C H' sa sl LL p refs ls n4, ?_, ?_⟩
    · refine ⟨kG, _, rfl, GV, rfl, ⟨_, hk7.sk⟩, ?_⟩
      refine for_it (walk_k (k := kG) (xs := rG)) (fun i σ' H' => ∃ x6, σ' = [some (.ref a), some (.ref sa), some (.ref LL), some (.ref GV), some (.ref BF), some (.ref p), x6, none, none, none, none, none, none, none, none] ∧ LA C H' sa sl LL p refs ls n4 ∧ GK kG H' GV rG ∧ ∀ v ∈ rG, ∃ c, v = .ref c ∧ RowX [sa, sl, LL, GV] H' c) ?_ ?_ ?_ ?_
      · exact ⟨_, rfl, la, hk7, hX7⟩
      · rintro i _ H' _ ⟨_, rfl, _, hk, _⟩
        exact hk.sk
      · rintro i xv _ H8 H' hi ⟨x6, rfl, la, hk, hX⟩ ⟨rfl, hx⟩
        obtain ⟨c, rfl, z⟩ := hX xv (List.mem_of_getElem? hx)
        rcases z with ⟨xs, hc⟩ | ⟨hn, ys, hc, hy⟩
        · exact ⟨_, rfl, _, _, _, _, _, rfl, .ty _, .base (.tup hc), kit_ty (b := "list") (r := false) (by decide +kernel), _, rfl, iteF ⟨_, rfl, la, hk, hX⟩⟩
        · have c1 : c ≠ sa := fun e => hn (by rw [e]; simp)
          have c2 : c ≠ sl := fun e => hn (by rw [e]; simp)
          have c3 : c ≠ LL := fun e => hn (by rw [e]; simp)
          have c4 : c ≠ GV := fun e => hn (by rw [e]; simp)
          refine ⟨_, rfl, _, _, _, _, _, rfl, .ty _, .base (.lst hc), kit_ty (b := "list") (r := true) (by decide +kernel), _, rfl, iteT ?_⟩
          refine ⟨_, rfl, c, ys, 0, 0, rfl, rfl, hc, by rw [hy]; rfl, ?_⟩
          refine ⟨_, rfl, la.lst hc c1 c2 c3, hk.set hc c4, fun v hv => ?_⟩
          obtain ⟨c', e, z⟩ := hX v hv
          exact ⟨c', e, z.set hc (by rw [List.length_set]; exact hy)⟩
      · rintro _ H' ⟨x6, rfl, la, _, _⟩
        exact ⟨x6, rfl, la⟩
    clear la hX7 hk7
    rintro _ H8 ⟨x6, rfl, la⟩
    -- the due rows and the text
    refine ⟨_, rfl, LL, _, rfl, .inl ⟨SqL.of la.hL, fun DU hDU => ?_⟩⟩
    have sD := new_ (o := .tup refs) hDU
    have la := la.same sD
    have hdu : (upd H8 DU (.tup refs)) DU = some (.tup refs) := upd_same
    generalize (upd H8 DU (.tup refs)) = H9 at la hdu ⊢
    have hlr : refs.length = ls.length := la.eL.1
    refine ⟨⟨_, rfl⟩, _, rfl, LL, rfl, ⟨_, SqL.of la.hL⟩, fun Dd hD => ?_⟩
    refine lc_same (xs := refs) (walk_l (K := K) (a := LL) (xs := refs)) (by rw [hlr]; exact Nat.le_trans h48 (by decide)) hD (fun H' s' => SqL.of (s' _ _ la.hL)) ((ls.map rowS).map V.str) (by simp [hlr]) (fun i x y H' Φ Ψ hx hy sm k => ?_) fun HA sA hdA => ?_
    · rw [List.getElem?_map, List.getElem?_map, Option.map_eq_some_iff] at hy
      obtain ⟨y1, hy, rfl⟩ := hy
      rw [Option.map_eq_some_iff] at hy
      obtain ⟨l, hl, rfl⟩ := hy
      obtain ⟨c, rfl, hc⟩ := la.eL.2 i x l hx hl
      have ok := gd.all48 l (List.mem_of_getElem? hl)
      have w1 := (TS.wS_ok ok.1).2
      have w2 := (TS.wS_ok ok.2).2
      have hsp : (" " : Str).length = 1 := by decide +kernel
      have big : ∀ {n : Nat}, n ≤ 300 → n ≤ sizeLine := fun h => Nat.le_trans h (by decide)
      refine ⟨c, _, rfl, SqT.of (sm _ _ hc), rfl, _, _, rfl, _, _, rfl, rfl, rfl, ?_⟩
      dsimp only [tYes]
      rw [if_pos rfl]
      refine ⟨_, rfl, l.1, rfl, ok.1, _, _, rfl, rfl, big (by omega), _, rfl, l.2, rfl, ok.2, _, _, rfl, rfl, big (by rw [Str.length_append]; omega), ?_⟩
      have e : wS l.1 ++ " " ++ wS l.2 = rowS l := by
        apply TS.cs_inj
        unfold rowS
        rw [TS.join_two, Str.join.eq_2]
      rw [e]
      exact k H' fun _ _ e => e
    refine ⟨_, Dd, ls.map rowS, rfl, rfl, .inl (SqL.of hdA), ?_, ?_⟩
    · have q := TS.rows_sum gd.all48
      have z : ("; " : Str).length = 2 := by decide +kernel
      rw [z, List.length_map]
      omega
    rw [TS.join_eq]
    have la := la.same sA
    have hdu := sA _ _ hdu
    have htl : (txt ls).length ≤ 336 := by
      have := TS.txt_len gd.all48 gd.ne
      omega
    refine ⟨fun σ' H' => σ' = [some (.ref a), some (.ref sa), some (.ref LL), some (.ref GV), some (.ref BF), some (.ref p), x6, some (.ref DU), some (.str (txt ls)), none, none, none, none, none, none] ∧ Same HA H', ?_, ?_⟩
    · obtain ⟨dx2, R2, refs2, hp2, hR2, hE2⟩ := id la.rs
      refine ⟨_, rfl, p, C, dx2, _, _, rfl, hp2, TC.cl, TC.nR, rsf_rows R2, _, rfl, _, _, rfl, two_ls hR2 hdu (ea_unmap hE2) la.eL h48, fun HB sB => ⟨_, rfl, iteF ?_⟩⟩
      have la := la.same sB
      refine ⟨_, rfl, p, dx2, _, rfl, sB _ _ hp2, p, ls, rfl, la.rs, gd, fun HC sC => ⟨_, rfl, _, rfl, rfl, _, rfl, ?_⟩⟩
      exact iteNo (b := !decide (V.str (txt ls) = V.str (txt ls))) (by simp) ⟨rfl, sB.trans sC⟩
    rintro _ HB ⟨rfl, sB⟩
    have la := la.same sB
    have hdu := sB _ _ hdu
    refine ⟨fun σ' H' => σ' = [some (.ref a), some (.ref sa), some (.ref LL), some (.ref GV), some (.ref BF), some (.ref p), x6, some (.ref DU), some (.str (txt ls)), none, none, none, none, none, none] ∧ ∃ n', n' ≤ 400 ∧ LA C H' sa sl LL p refs ls n', ?_, ?_⟩
    · refine ⟨rfl, _, rfl, txt ls, rfl, by omega, fun ls' g' e' p' HC sC hpn rs' => ?_, fun z => absurd ⟨ls, gd, rfl⟩ z⟩
      have e2 := TS.txt_inj gd.ne gd.all48 g'.ne g'.all48 e'
      subst e2
      obtain ⟨dx3, R3, refs3, hp3, hR3, hE3⟩ := id rs'
      have la := la.same sC
      refine ⟨p', C, dx3, _, _, rfl, hp3, TC.cl, TC.nR, rsf_rows R3, _, rfl, _, _, rfl, two_ls hR3 (sC _ _ hdu) (ea_unmap hE3) la.eL h48, fun HD sD => ⟨_, rfl, iteF ?_⟩⟩
      have la := la.same sD
      refine ⟨_, rfl, _, rfl, sa, sl, LL, n4, refs, ls, rfl, la.st, by omega, la.hL, La, Ll, la.eL, gd, fun n5 HE SE hn5 kE => ⟨_, rfl, iteF ⟨rfl, n5, by omega, la.kept SE kE⟩⟩⟩
    rintro _ HC ⟨rfl, n5, hn5, la⟩
    clear hdu sB sA sD
    refine ⟨fun σ' H' => ∃ n', (∃ x6 x7 x9 x10 x11 x12, σ' = [some (.ref a), some (.ref sa), some (.ref LL), some (.ref GV), some (.ref BF), some (.ref p), x6, x7, some (.str (txt ls)), x9, x10, x11, x12, none, none]) ∧ LA C H' sa sl LL p refs ls n', ?_, ?_⟩
    · refine ⟨3, rfl, by decide, by decide, ?_⟩
      refine for_range (n := 3) (fun i σ' H' => ∃ n', (∃ x6 x7 x9 x10 x11 x12, σ' = [some (.ref a), some (.ref sa), some (.ref LL), some (.ref GV), some (.ref BF), some (.ref p), x6, x7, some (.str (txt ls)), x9, x10, x11, x12, none, none]) ∧ LA C H' sa sl LL p refs ls n' ∧ n' ≤ 400 + 20 * i) ?_ ?_ ?_
      · exact ⟨n5, ⟨_, _, _, _, _, _, rfl⟩, la, by omega⟩
      · clear la
        rintro i _ H' hi ⟨n6, ⟨x6, x7, x9, x10, x11, x12, rfl⟩, la, hn6⟩
        refine ⟨_, rfl, ?_⟩
        refine ⟨fun σ' H' => ∃ n', (∃ (x11 : Option V) (t : Str), σ' = [some (.ref a), some (.ref sa), some (.ref LL), some (.ref GV), some (.ref BF), some (.ref p), x6, x7, some (.str (txt ls)), some (.int (0 + (i : Int))), some (.str t), x11, x12, none, none] ∧ t.length ≤ 2730) ∧ LA C H' sa sl LL p refs ls n' ∧ n' ≤ n6 + 14, ?_, ?_⟩
        · refine ⟨_, rfl, sa, sl, n6, 3, rfl, la.st, by omega, by decide, sm48 (by decide) (by decide), fun r HD r0 r1 SD kD => ⟨_, _, rfl, rfl, ?_⟩⟩
          have la := la.kept SD kD
          refine ⟨_, rfl, by omega, by omega, ?_⟩
          refine for_range (n := (1 + r).toNat) (fun j σ' H' => ∃ n', (∃ (x11 : Option V) (t : Str), σ' = [some (.ref a), some (.ref sa), some (.ref LL), some (.ref GV), some (.ref BF), some (.ref p), x6, x7, some (.str (txt ls)), some (.int (0 + (i : Int))), some (.str t), x11, x12, none, none] ∧ t.length + 6 ≤ 342 * 2 ^ j) ∧ LA C H' sa sl LL p refs ls n' ∧ n' ≤ n6 + 1 + 4 * j) ?_ ?_ ?_
          · exact ⟨n6 + 1, ⟨_, _, rfl, by omega⟩, la, by omega⟩
          · clear la
            rintro j _ H' hj ⟨n7, ⟨x11, t, rfl, ht⟩, la, hn7⟩
            have hj3 : j ≤ 2 := by omega
            have h4 : t.length ≤ 3900 := by
              have : j = 0 ∨ j = 1 ∨ j = 2 := by omega
              rcases this with rfl | rfl | rfl <;> omega
            refine ⟨_, rfl, _, rfl, sa, sl, n7, t, rfl, la.st, by omega, h4, fun t' n8 HE ht' SE hn8 kE => ?_⟩
            refine ⟨n8, ⟨_, t', rfl, ?_⟩, la.kept SE kE, by omega⟩
            rw [Nat.pow_succ]
            omega
          · rintro _ H' ⟨n7, ⟨x11, t, rfl, ht⟩, la, hn7⟩
            refine ⟨n7, ⟨_, t, rfl, ?_⟩, la, by omega⟩
            have h3 : (1 + r).toNat ≤ 3 := by omega
            have : (2 : Nat) ^ (1 + r).toNat ≤ 2 ^ 3 := Nat.pow_le_pow_right (by decide) h3
            omega
        clear la
        rintro _ HE ⟨n7, ⟨x11, t, rfl, ht⟩, la, hn7⟩
        refine ⟨fun σ' H' => ∃ fv, σ' = [some (.ref a), some (.ref sa), some (.ref LL), some (.ref GV), some (.ref BF), some (.ref p), x6, x7, some (.str (txt ls)), some (.int (0 + (i : Int))), some (.str t), x11, some fv, none, none] ∧ Same HE H' ∧ ((∃ ls' T refs', GoodL ls' ∧ t = txt ls' ∧ fv = .ref T ∧ H' T = some (.tup refs') ∧ Ea H' isLn refs' ls') ∨ (¬ IsTxt t ∧ fv = .non)), ?_, ?_⟩
        · refine ⟨rfl, _, rfl, t, rfl, by omega, fun ls' g' e' p' HF sF hn rs' => ?_, fun no HF sF => ⟨true, TX.ex, fun _ a' ha' => ⟨_, rfl, sF, .inr ⟨no, rfl⟩⟩, fun q => Bool.noConfusion q⟩⟩
          obtain ⟨dx3, R3, refs3, hp3, hR3, hE3⟩ := id rs'
          exact ⟨p', C, dx3, _, _, rfl, hp3, TC.cl, TC.nR, rsf_rows R3, _, rfl, sF, .inl ⟨ls', R3, refs3, g', e', rfl, hR3, ea_unmap hE3⟩⟩
        rintro _ HF ⟨fv, rfl, sF, hfv⟩
        have la := la.same sF
        refine ⟨_, rfl, t, rfl, by omega, fun ls' g' e' TT refs2 HG sG hTn hTT hE2 => ?_, fun no HG sG => ?_⟩
        · have la := la.same sG
          rcases hfv with ⟨ls2, T2, refs3, g2, e2, rfl, hT2, hE3⟩ | ⟨no, rfl⟩
          · have e3 := TS.txt_inj g'.ne g'.all48 g2.ne g2.all48 (e'.symm.trans e2)
            subst e3
            refine ⟨_, rfl, rfl, _, rfl, iteF (iteF ?_)⟩
            refine ⟨_, rfl, rfl, _, rfl, iteT ?_⟩
            refine ⟨_, rfl, _, rfl, _, _, rfl, two_ls (sG _ _ hT2) hTT (hE3.same sG) hE2 g'.most, fun HI sI => ⟨_, rfl, iteF ?_⟩⟩
            exact ⟨n7, ⟨_, _, _, _, _, _, rfl⟩, la.same sI, by omega⟩
          · exact absurd ⟨ls', g', e'⟩ no
        · have la := la.same sG
          rcases hfv with ⟨ls2, T2, refs3, g2, e2, rfl, hT2, hE3⟩ | ⟨_, rfl⟩
          · exact absurd ⟨ls2, g2, e2⟩ no
          · refine ⟨_, rfl, rfl, _, rfl, iteT ?_⟩
            refine ⟨_, rfl, rfl, _, rfl, iteF ?_⟩
            refine ⟨_, rfl, rfl, _, rfl, iteF ?_⟩
            exact ⟨n7, ⟨_, _, _, _, _, _, rfl⟩, la, by omega⟩
      · rintro _ H' ⟨n', hσ, la, _⟩
        exact ⟨n', hσ, la⟩
    rintro _ HD ⟨n6, ⟨x6, x7, x9, x10, x11, x12, rfl⟩, la⟩
    obtain ⟨dx2, R2, refs2, hp2, hR2, hE2⟩ := id la.rs
    refine ⟨_, rfl, p, dx2, _, rfl, hp2, p, ls, rfl, la.rs, gd, fun HE sE => ⟨_, rfl, _, rfl, rfl, ?_⟩⟩
    rw [decide_eq_true rfl]
    exact kk _
end
end PA

set_option maxHeartbeats 8000000
namespace PA
open PySem L2 RZ
theorem kit_self {K : PySem.W.Frag} {C : Addr} : PySem.W.kitOne K (.ref C) (.ref C) = some true := by
  unfold PySem.W.kitOne
  rw [if_pos (by simp)]
theorem kit_2 {K : PySem.W.Frag} {C D : Addr} (h1 : (Value.ref D == Value.ref C) = false) (h2 : PySem.W.isClsIn K C = true) (h3 : PySem.W.typeIn K (.ref C) = some (.type "type")) (h4 : PySem.W.subIn K (.ref D) (.ref C) = some false) : PySem.W.kitOne K (.ref D) (.ref C) = some false := by
  have e2 : ((PySem.W.clsIn K C).isSome && PySem.W.typeIn K (.ref C) == some (.type "type")) = true := by
    have h2' : (PySem.W.clsIn K C).isSome = true := h2
    rw [h2', h3] <;> rfl
  unfold PySem.W.kitOne
  rw [h1, if_neg (by simp)]
  show (if ((PySem.W.clsIn K C).isSome && PySem.W.typeIn K (.ref C) == some (.type "type")) = true then PySem.W.subIn K (.ref D) (.ref C) else none) = some false
  rw [if_pos e2]
  exact h4
theorem exm_2 {K : PySem.W.Frag} {S P : Addr} (h1 : PySem.W.subIn K (.ref P) (.type "BaseException") = some true) (h2 : PySem.W.isClsIn K P = true) (h3 : PySem.W.typeIn K (.ref P) = some (.type "type")) (h4 : PySem.W.subIn K (.ref S) (.ref P) = some true) :
    PySem.W.exmOne K (.ref S) (.ref P) = some true := by
  have e2 : ((PySem.W.clsIn K P).isSome && PySem.W.typeIn K (.ref P) == some (.type "type")) = true := by
    have h2' : (PySem.W.clsIn K P).isSome = true := h2
    rw [h2', h3] <;> rfl
  unfold PySem.W.exmOne
  rw [h1, if_pos (by simp)]
  show (if ((PySem.W.clsIn K P).isSome && PySem.W.typeIn K (.ref P) == some (.type "type")) = true then PySem.W.subIn K (.ref S) (.ref P) else none) = some true
  rw [if_pos e2]
  exact h4
theorem kit_cls {K : PySem.W.Frag} {C : Addr} {t : String} (h2 : PySem.W.isClsIn K C = true) (h3 : PySem.W.typeIn K (.ref C) = some (.type "type")) (h4 : PySem.W.subIn K (.type t) (.ref C) = some false) : PySem.W.kitOne K (.type t) (.ref C) = some false := by
  have e2 : ((PySem.W.clsIn K C).isSome && PySem.W.typeIn K (.ref C) == some (.type "type")) = true := by
    have h2' : (PySem.W.clsIn K C).isSome = true := h2
    rw [h2', h3] <;> rfl
  unfold PySem.W.kitOne
  rw [if_neg (by simp)]
  show (if ((PySem.W.clsIn K C).isSome && PySem.W.typeIn K (.ref C) == some (.type "type")) = true then PySem.W.subIn K (.type t) (.ref C) else none) = some false
  rw [if_pos e2]
  exact h4

theorem all_mk {l : PySem.W.OpenLaw} {w : World} {K : PySem.W.Frag} {h : Heap} {mg : Str → Option Value} {fa C gCI Fo gStr X P_ c1 pR gRead gisInt gbelow gisRow gcheck gword greadSt gdraw gstart gpick gsame ghand gentry glines glentry grdg gchg gflt gLaw : Addr} (X_ : K.In h) (G : h.Ns mainGlobals mg) (hfa : mg "law" = some (.ref fa))
    {ocCI kVCI dcCI pmCI cdCI ctCI : Value} {odCI anCI : Option Addr} {slCI : Array (Option Value)} {ocStr kVStr dcStr pmStr cdStr ctStr : Value} {odStr anStr : Option Addr} {slStr : Array (Option Value)} {tkM : Tok} {restR : List Value} {ocRead kVRead dcRead pmRead cdRead ctRead : Value} {odRead anRead : Option Addr} {slRead : Array (Option Value)} {ocisInt kVisInt dcisInt pmisInt cdisInt ctisInt : Value} {odisInt anisInt : Option Addr} {slisInt : Array (Option Value)} {ocbelow kVbelow dcbelow pmbelow cdbelow ctbelow : Value} {odbelow anbelow : Option Addr} {slbelow : Array (Option Value)} {ocisRow kVisRow dcisRow pmisRow cdisRow ctisRow : Value} {odisRow anisRow : Option Addr} {slisRow : Array (Option Value)} {occheck kVcheck dccheck pmcheck cdcheck ctcheck : Value} {odcheck ancheck : Option Addr} {slcheck : Array (Option Value)} {ocword kVword dcword pmword cdword ctword : Value} {odword anword : Option Addr} {slword : Array (Option Value)} {ocreadSt kVreadSt dcreadSt pmreadSt cdreadSt ctreadSt : Value} {odreadSt anreadSt : Option Addr} {slreadSt : Array (Option Value)} {ocdraw kVdraw dcdraw pmdraw cddraw ctdraw : Value} {oddraw andraw : Option Addr} {sldraw : Array (Option Value)} {ocstart kVstart dcstart pmstart cdstart ctstart : Value} {odstart anstart : Option Addr} {slstart : Array (Option Value)} {ocpick kVpick dcpick pmpick cdpick ctpick : Value} {odpick anpick : Option Addr} {slpick : Array (Option Value)} {ocsame kVsame dcsame pmsame cdsame ctsame : Value} {odsame ansame : Option Addr} {slsame : Array (Option Value)} {ochand kVhand dchand pmhand cdhand cthand : Value} {odhand anhand : Option Addr} {slhand : Array (Option Value)} {ocentry kVentry dcentry pmentry cdentry ctentry : Value} {odentry anentry : Option Addr} {slentry : Array (Option Value)} {oclines kVlines dclines pmlines cdlines ctlines : Value} {odlines anlines : Option Addr} {sllines : Array (Option Value)} {oclentry kVlentry dclentry pmlentry cdlentry ctlentry : Value} {odlentry anlentry : Option Addr} {sllentry : Array (Option Value)} {ocrdg kVrdg dcrdg pmrdg cdrdg ctrdg : Value} {odrdg anrdg : Option Addr} {slrdg : Array (Option Value)} {occhg kVchg dcchg pmchg cdchg ctchg : Value} {odchg anchg : Option Addr} {slchg : Array (Option Value)} {ocflt kVflt dcflt pmflt cdflt ctflt : Value} {odflt anflt : Option Addr} {slflt : Array (Option Value)} {ocLaw kVLaw dcLaw pmLaw cdLaw ctLaw : Value} {odLaw anLaw : Option Addr} {slLaw : Array (Option Value)}
    (aC : PySem.W.nsIn K mainGlobals "RowSet" = some (some (.ref C)))
    (pgC : PySem.W.plainGet K C Str.empty = true)
    (hdC : PySem.W.hasDictIn K C = true)
    (poC : PySem.W.plainOver K C = true)
    (saC : PySem.W.findIn K (.ref C) "__setattr__" = some (some (.builtin "object.__setattr__")))
    (kcC : PySem.W.keepIn K (.ref C) = true)
    (mkC : PySem.W.makesIn K C = true)
    (nCrows : PySem.W.findIn K (.ref C) "rows" = some none)
    (aCI : PySem.W.findIn K (.ref C) "__init__" = some (some (.ref gCI)))
    (lCI : K.lookup gCI = some ⟨ocCI, odCI, .func (PySem.W.fnOf "__init__" "RowSet.__init__" (defArgs sInit) (defBody sInit) (defScope sInit) .none kVCI dcCI pmCI anCI cdCI ctCI), slCI⟩)
    (cCI : PySem.W.codeIn K cdCI "RowSet.__init__" = true)
    (kCI : PySem.W.keepIn K (.ref gCI) = true)
    (iCI : PySem.W.isFn K (.ref gCI) = true)
    (aFo : PySem.W.nsIn K mainGlobals "Found" = some (some (.ref Fo)))
    (iCF : PySem.W.isClsIn K Fo = true)
    (tCF : PySem.W.typeIn K (.ref Fo) = some (.type "type"))
    (sLF : PySem.W.subIn K (.type "list") (.ref Fo) = some false)
    (sTF : PySem.W.subIn K (.type "tuple") (.ref Fo) = some false)
    (aStr : PySem.W.findIn K (.ref C) "__str__" = some (some (.ref gStr)))
    (lStr : K.lookup gStr = some ⟨ocStr, odStr, .func (PySem.W.fnOf "__str__" "RowSet.__str__" (defArgs sStr) (defBody sStr) (defScope sStr) .none kVStr dcStr pmStr anStr cdStr ctStr), slStr⟩)
    (cStr : PySem.W.codeIn K cdStr "RowSet.__str__" = true)
    (kStr : PySem.W.keepIn K (.ref gStr) = true)
    (iStr : PySem.W.isFn K (.ref gStr) = true)
    (aX : PySem.W.nsIn K mainGlobals "InvalidRows" = some (some (.ref X)))
    (xX : PySem.W.excIn K X [.type "ValueError", .type "Exception", .type "BaseException", .type "object"] "ValueError.__new__" = true)
    (kX : PySem.W.keepIn K (.ref X) = true)
    (bX : PySem.W.subIn K (.ref X) (.type "BaseException") = some true)
    (tX : PySem.W.typeIn K (.ref X) = some (.type "type"))
    (isX : PySem.W.isClsIn K X = true)
    (aP_ : PySem.W.nsIn K mainGlobals "PairError" = some (some (.ref P_)))
    (bP_ : PySem.W.subIn K (.ref P_) (.type "BaseException") = some true)
    (tP_ : PySem.W.typeIn K (.ref P_) = some (.type "type"))
    (isP_ : PySem.W.isClsIn K P_ = true)
    (sXP_ : PySem.W.subIn K (.ref X) (.ref P_) = some true)
    (sXX : PySem.W.subIn K (.ref X) (.ref X) = some true)
    (ac1 : PySem.W.nsIn K mainGlobals "InvalidRule" = some (some (.ref c1)))
    (isc1 : PySem.W.isClsIn K c1 = true)
    (tc1 : PySem.W.typeIn K (.ref c1) = some (.type "type"))
    (neXc1 : (Value.ref X == Value.ref c1) = false)
    (sXc1 : PySem.W.subIn K (.ref X) (.ref c1) = some false)
    (e1 : PySem.W.findIn K (.ref X) "__getattribute__" = some (some (.builtin "BaseException.__getattribute__")))
    (e2 : PySem.W.findIn K (.ref X) "__getattr__" = some none)
    (e3 : PySem.W.hasDictIn K X = true)
    (e4 : PySem.W.findIn K (.ref X) "__class__" = some (some (.builtin "object.__class__")))
    (e5 : PySem.W.specialIn K (.builtin "object.__class__") "__get__" = some (some (.builtin "getset_descriptor.__get__")))
    (e6 : PySem.W.takesIn K (.builtin "object.__class__") = some true)
    (e7 : PySem.W.mroIn K X (.type "object") = some true)
    (zisinstance : PySem.W.nsIn K mainGlobals "isinstance" = some none)
    (zint : PySem.W.nsIn K mainGlobals "int" = some none)
    (zbool : PySem.W.nsIn K mainGlobals "bool" = some none)
    (zlist : PySem.W.nsIn K mainGlobals "list" = some none)
    (ztuple : PySem.W.nsIn K mainGlobals "tuple" = some none)
    (zstr : PySem.W.nsIn K mainGlobals "str" = some none)
    (zlen : PySem.W.nsIn K mainGlobals "len" = some none)
    (zall : PySem.W.nsIn K mainGlobals "all" = some none)
    (zzip : PySem.W.nsIn K mainGlobals "zip" = some none)
    (zrange : PySem.W.nsIn K mainGlobals "range" = some none)
    (zmax : PySem.W.nsIn K mainGlobals "max" = some none)
    (aMost : PySem.W.nsIn K mainGlobals "MOST_ROWS" = some (some (.int 48 tkM)))
    (crd : PySem.W.readsIn K C (.type "type") = true)
    (cga : PySem.W.specialIn K (.ref C) "__getattribute__" = some (some (.builtin "type.__getattribute__")))
    (cfi : PySem.W.findCls K (.ref C) (.type "type") "read" = some (.get (.builtin "staticmethod.__get__") (.ref pR) .none (.ref C)))
    (aRead : PySem.W.recIn K pR "staticmethod" = some (.ref gRead :: restR))
    (lRead : K.lookup gRead = some ⟨ocRead, odRead, .func (PySem.W.fnOf "read" "RowSet.read" (defArgs sRead) (defBody sRead) (defScope sRead) .none kVRead dcRead pmRead anRead cdRead ctRead), slRead⟩)
    (cRead : PySem.W.codeIn K cdRead "RowSet.read" = true)
    (kRead : PySem.W.keepIn K (.ref gRead) = true)
    (chi : PySem.W.handedIn (.ref gRead) = true)
    (aisInt : PySem.W.nsIn K mainGlobals "is_integer" = some (some (.ref gisInt)))
    (lisInt : K.lookup gisInt = some ⟨ocisInt, odisInt, .func (PySem.W.fnOf "is_integer" "is_integer" (defArgs sIsInt) (defBody sIsInt) (defScope sIsInt) .none kVisInt dcisInt pmisInt anisInt cdisInt ctisInt), slisInt⟩)
    (cisInt : PySem.W.codeIn K cdisInt "is_integer" = true)
    (kisInt : PySem.W.keepIn K (.ref gisInt) = true)
    (abelow : PySem.W.nsIn K mainGlobals "is_below" = some (some (.ref gbelow)))
    (lbelow : K.lookup gbelow = some ⟨ocbelow, odbelow, .func (PySem.W.fnOf "is_below" "is_below" (defArgs sBelow) (defBody sBelow) (defScope sBelow) .none kVbelow dcbelow pmbelow anbelow cdbelow ctbelow), slbelow⟩)
    (cbelow : PySem.W.codeIn K cdbelow "is_below" = true)
    (kbelow : PySem.W.keepIn K (.ref gbelow) = true)
    (aisRow : PySem.W.nsIn K mainGlobals "_is_row" = some (some (.ref gisRow)))
    (lisRow : K.lookup gisRow = some ⟨ocisRow, odisRow, .func (PySem.W.fnOf "_is_row" "_is_row" (defArgs sIsRow) (defBody sIsRow) (defScope sIsRow) .none kVisRow dcisRow pmisRow anisRow cdisRow ctisRow), slisRow⟩)
    (cisRow : PySem.W.codeIn K cdisRow "_is_row" = true)
    (kisRow : PySem.W.keepIn K (.ref gisRow) = true)
    (acheck : PySem.W.nsIn K mainGlobals "_check_rows" = some (some (.ref gcheck)))
    (lcheck : K.lookup gcheck = some ⟨occheck, odcheck, .func (PySem.W.fnOf "_check_rows" "_check_rows" (defArgs sCheck) (defBody sCheck) (defScope sCheck) .none kVcheck dccheck pmcheck ancheck cdcheck ctcheck), slcheck⟩)
    (ccheck : PySem.W.codeIn K cdcheck "_check_rows" = true)
    (kcheck : PySem.W.keepIn K (.ref gcheck) = true)
    (aword : PySem.W.nsIn K mainGlobals "_word" = some (some (.ref gword)))
    (lword : K.lookup gword = some ⟨ocword, odword, .func (PySem.W.fnOf "_word" "_word" (defArgs sWord) (defBody sWord) (defScope sWord) .none kVword dcword pmword anword cdword ctword), slword⟩)
    (cword : PySem.W.codeIn K cdword "_word" = true)
    (kword : PySem.W.keepIn K (.ref gword) = true)
    (areadSt : PySem.W.nsIn K mainGlobals "read_state" = some (some (.ref greadSt)))
    (lreadSt : K.lookup greadSt = some ⟨ocreadSt, odreadSt, .func (PySem.W.fnOf "read_state" "read_state" (defArgs sReadSt) (defBody sReadSt) (defScope sReadSt) .none kVreadSt dcreadSt pmreadSt anreadSt cdreadSt ctreadSt), slreadSt⟩)
    (creadSt : PySem.W.codeIn K cdreadSt "read_state" = true)
    (kreadSt : PySem.W.keepIn K (.ref greadSt) = true)
    (adraw : PySem.W.nsIn K mainGlobals "_law_draw" = some (some (.ref gdraw)))
    (ldraw : K.lookup gdraw = some ⟨ocdraw, oddraw, .func (PySem.W.fnOf "_law_draw" "_law_draw" (defArgs sDraw) (defBody sDraw) (defScope sDraw) .none kVdraw dcdraw pmdraw andraw cddraw ctdraw), sldraw⟩)
    (cdraw : PySem.W.codeIn K cddraw "_law_draw" = true)
    (kdraw : PySem.W.keepIn K (.ref gdraw) = true)
    (astart : PySem.W.nsIn K mainGlobals "_law_start" = some (some (.ref gstart)))
    (lstart : K.lookup gstart = some ⟨ocstart, odstart, .func (PySem.W.fnOf "_law_start" "_law_start" (defArgs sStart) (defBody sStart) (defScope sStart) .none kVstart dcstart pmstart anstart cdstart ctstart), slstart⟩)
    (cstart : PySem.W.codeIn K cdstart "_law_start" = true)
    (kstart : PySem.W.keepIn K (.ref gstart) = true)
    (apick : PySem.W.nsIn K mainGlobals "_law_pick" = some (some (.ref gpick)))
    (lpick : K.lookup gpick = some ⟨ocpick, odpick, .func (PySem.W.fnOf "_law_pick" "_law_pick" (defArgs sPick) (defBody sPick) (defScope sPick) .none kVpick dcpick pmpick anpick cdpick ctpick), slpick⟩)
    (cpick : PySem.W.codeIn K cdpick "_law_pick" = true)
    (kpick : PySem.W.keepIn K (.ref gpick) = true)
    (asame : PySem.W.nsIn K mainGlobals "_law_same" = some (some (.ref gsame)))
    (lsame : K.lookup gsame = some ⟨ocsame, odsame, .func (PySem.W.fnOf "_law_same" "_law_same" (defArgs sSame) (defBody sSame) (defScope sSame) .none kVsame dcsame pmsame ansame cdsame ctsame), slsame⟩)
    (csame : PySem.W.codeIn K cdsame "_law_same" = true)
    (ksame : PySem.W.keepIn K (.ref gsame) = true)
    (ahand : PySem.W.nsIn K mainGlobals "_law_m_handed" = some (some (.ref ghand)))
    (lhand : K.lookup ghand = some ⟨ochand, odhand, .func (PySem.W.fnOf "_law_m_handed" "_law_m_handed" (defArgs sHanded) (defBody sHanded) (defScope sHanded) .none kVhand dchand pmhand anhand cdhand cthand), slhand⟩)
    (chand : PySem.W.codeIn K cdhand "_law_m_handed" = true)
    (khand : PySem.W.keepIn K (.ref ghand) = true)
    (aentry : PySem.W.nsIn K mainGlobals "_law_m_entry" = some (some (.ref gentry)))
    (lentry : K.lookup gentry = some ⟨ocentry, odentry, .func (PySem.W.fnOf "_law_m_entry" "_law_m_entry" (defArgs sEntry) (defBody sEntry) (defScope sEntry) .none kVentry dcentry pmentry anentry cdentry ctentry), slentry⟩)
    (centry : PySem.W.codeIn K cdentry "_law_m_entry" = true)
    (kentry : PySem.W.keepIn K (.ref gentry) = true)
    (alines : PySem.W.nsIn K mainGlobals "_law_m_lines" = some (some (.ref glines)))
    (llines : K.lookup glines = some ⟨oclines, odlines, .func (PySem.W.fnOf "_law_m_lines" "_law_m_lines" (defArgs sLines) (defBody sLines) (defScope sLines) .none kVlines dclines pmlines anlines cdlines ctlines), sllines⟩)
    (clines : PySem.W.codeIn K cdlines "_law_m_lines" = true)
    (klines : PySem.W.keepIn K (.ref glines) = true)
    (alentry : PySem.W.nsIn K mainGlobals "_law_entry" = some (some (.ref glentry)))
    (llentry : K.lookup glentry = some ⟨oclentry, odlentry, .func (PySem.W.fnOf "_law_entry" "_law_entry" (defArgs sLEntry) (defBody sLEntry) (defScope sLEntry) .none kVlentry dclentry pmlentry anlentry cdlentry ctlentry), sllentry⟩)
    (clentry : PySem.W.codeIn K cdlentry "_law_entry" = true)
    (klentry : PySem.W.keepIn K (.ref glentry) = true)
    (ardg : PySem.W.nsIn K mainGlobals "_law_reading" = some (some (.ref grdg)))
    (lrdg : K.lookup grdg = some ⟨ocrdg, odrdg, .func (PySem.W.fnOf "_law_reading" "_law_reading" (defArgs sReading) (defBody sReading) (defScope sReading) .none kVrdg dcrdg pmrdg anrdg cdrdg ctrdg), slrdg⟩)
    (crdg : PySem.W.codeIn K cdrdg "_law_reading" = true)
    (krdg : PySem.W.keepIn K (.ref grdg) = true)
    (achg : PySem.W.nsIn K mainGlobals "_law_changed" = some (some (.ref gchg)))
    (lchg : K.lookup gchg = some ⟨occhg, odchg, .func (PySem.W.fnOf "_law_changed" "_law_changed" (defArgs sChanged) (defBody sChanged) (defScope sChanged) .none kVchg dcchg pmchg anchg cdchg ctchg), slchg⟩)
    (cchg : PySem.W.codeIn K cdchg "_law_changed" = true)
    (kchg : PySem.W.keepIn K (.ref gchg) = true)
    (aflt : PySem.W.nsIn K mainGlobals "_law_fault" = some (some (.ref gflt)))
    (lflt : K.lookup gflt = some ⟨ocflt, odflt, .func (PySem.W.fnOf "_law_fault" "_law_fault" (defArgs sFault) (defBody sFault) (defScope sFault) .none kVflt dcflt pmflt anflt cdflt ctflt), slflt⟩)
    (cflt : PySem.W.codeIn K cdflt "_law_fault" = true)
    (kflt : PySem.W.keepIn K (.ref gflt) = true)
    (aLaw : PySem.W.nsIn K mainGlobals "law" = some (some (.ref gLaw)))
    (lLaw : K.lookup gLaw = some ⟨ocLaw, odLaw, .func (PySem.W.fnOf "law" "law" (defArgs sLaw) (defBody sLaw) (defScope sLaw) .none kVLaw dcLaw pmLaw anLaw cdLaw ctLaw), slLaw⟩)
    (cLaw : PySem.W.codeIn K cdLaw "law" = true)
    (kLaw : PySem.W.keepIn K (.ref gLaw) = true) :
    ∃ fd : FuncData, (∀ (s : Shared) (v : Value), BindsTo s fd ⟨[v], []⟩ [("_law_script", v)]) ∧ ∀ base : Heap, K.In base → base.Ns mainGlobals mg → FnOk l.prog w K mg base CX0 9 fa fd ["_law_script"] (spLaw K) := by
  have e := hfa.symm.trans (PySem.W.mg_of X_ G aLaw)
  cases e
  have FCI := fun_mk (st := sInit) lCI cCI kCI
  have bCI := FCI.binds (ps := ["self", "rows"]) fun _ _ _ _ _ _ us hl => match us, hl with | [_, _], _ => rfl
  have FStr := fun_mk (st := sStr) lStr cStr kStr
  have bStr := FStr.binds (ps := ["self"]) fun _ _ _ _ _ _ us hl => match us, hl with | [_], _ => rfl
  have FRead := fun_mk (st := sRead) lRead cRead kRead
  have bRead := FRead.binds (ps := ["text"]) fun _ _ _ _ _ _ us hl => match us, hl with | [_], _ => rfl
  have FisInt := fun_mk (st := sIsInt) lisInt cisInt kisInt
  have bisInt := FisInt.binds (ps := ["value"]) fun _ _ _ _ _ _ us hl => match us, hl with | [_], _ => rfl
  have Fbelow := fun_mk (st := sBelow) lbelow cbelow kbelow
  have bbelow := Fbelow.binds (ps := ["value", "count"]) fun _ _ _ _ _ _ us hl => match us, hl with | [_, _], _ => rfl
  have FisRow := fun_mk (st := sIsRow) lisRow cisRow kisRow
  have bisRow := FisRow.binds (ps := ["row", "count"]) fun _ _ _ _ _ _ us hl => match us, hl with | [_, _], _ => rfl
  have Fcheck := fun_mk (st := sCheck) lcheck ccheck kcheck
  have bcheck := Fcheck.binds (ps := ["rows"]) fun _ _ _ _ _ _ us hl => match us, hl with | [_], _ => rfl
  have Fword := fun_mk (st := sWord) lword cword kword
  have bword := Fword.binds (ps := ["entry"]) fun _ _ _ _ _ _ us hl => match us, hl with | [_], _ => rfl
  have FreadSt := fun_mk (st := sReadSt) lreadSt creadSt kreadSt
  have breadSt := FreadSt.binds (ps := ["word"]) fun _ _ _ _ _ _ us hl => match us, hl with | [_], _ => rfl
  have Fdraw := fun_mk (st := sDraw) ldraw cdraw kdraw
  have bdraw := Fdraw.binds (ps := ["_law_stream", "_law_many"]) fun _ _ _ _ _ _ us hl => match us, hl with | [_, _], _ => rfl
  have Fstart := fun_mk (st := sStart) lstart cstart kstart
  have bstart := Fstart.binds (ps := ["_law_script"]) fun _ _ _ _ _ _ us hl => match us, hl with | [_], _ => rfl
  have Fpick := fun_mk (st := sPick) lpick cpick kpick
  have bpick := Fpick.binds (ps := ["_law_stream", "_law_some"]) fun _ _ _ _ _ _ us hl => match us, hl with | [_, _], _ => rfl
  have Fsame := fun_mk (st := sSame) lsame csame ksame
  have bsame := Fsame.binds (ps := ["_law_found", "_law_due"]) fun _ _ _ _ _ _ us hl => match us, hl with | [_, _], _ => rfl
  have Fhand := fun_mk (st := sHanded) lhand chand khand
  have bhand := Fhand.binds (ps := ["_law_stream", "_law_rows"]) fun _ _ _ _ _ _ us hl => match us, hl with | [_, _], _ => rfl
  have Fentry := fun_mk (st := sEntry) lentry centry kentry
  have bentry := Fentry.binds (ps := ["_law_stream", "_law_size"]) fun _ _ _ _ _ _ us hl => match us, hl with | [_, _], _ => rfl
  have Flines := fun_mk (st := sLines) llines clines klines
  have blines := Flines.binds (ps := ["_law_stream", "_law_most"]) fun _ _ _ _ _ _ us hl => match us, hl with | [_, _], _ => rfl
  have Flentry := fun_mk (st := sLEntry) llentry clentry klentry
  have blentry := Flentry.binds (ps := ["_law_entry_here"]) fun _ _ _ _ _ _ us hl => match us, hl with | [_], _ => rfl
  have Frdg := fun_mk (st := sReading) lrdg crdg krdg
  have brdg := Frdg.binds (ps := ["_law_text"]) fun _ _ _ _ _ _ us hl => match us, hl with | [_], _ => rfl
  have Fchg := fun_mk (st := sChanged) lchg cchg kchg
  have bchg := Fchg.binds (ps := ["_law_stream", "_law_text"]) fun _ _ _ _ _ _ us hl => match us, hl with | [_, _], _ => rfl
  have Fflt := fun_mk (st := sFault) lflt cflt kflt
  have bflt := Fflt.binds (ps := ["_law_stream", "_law_lines"]) fun _ _ _ _ _ _ us hl => match us, hl with | [_, _], _ => rfl
  have PR : Prog K mg C X P_ Fo gCI gisInt gbelow gisRow gcheck gStr gword greadSt c1 gRead pR gdraw gstart gpick gsame ghand gentry glines glentry grdg gchg gflt (.type "type") (PySem.W.fnOf "__init__" "RowSet.__init__" (defArgs sInit) (defBody sInit) (defScope sInit) .none kVCI dcCI pmCI anCI cdCI ctCI) (PySem.W.fnOf "is_integer" "is_integer" (defArgs sIsInt) (defBody sIsInt) (defScope sIsInt) .none kVisInt dcisInt pmisInt anisInt cdisInt ctisInt) (PySem.W.fnOf "is_below" "is_below" (defArgs sBelow) (defBody sBelow) (defScope sBelow) .none kVbelow dcbelow pmbelow anbelow cdbelow ctbelow) (PySem.W.fnOf "_is_row" "_is_row" (defArgs sIsRow) (defBody sIsRow) (defScope sIsRow) .none kVisRow dcisRow pmisRow anisRow cdisRow ctisRow) (PySem.W.fnOf "_check_rows" "_check_rows" (defArgs sCheck) (defBody sCheck) (defScope sCheck) .none kVcheck dccheck pmcheck ancheck cdcheck ctcheck) (PySem.W.fnOf "__str__" "RowSet.__str__" (defArgs sStr) (defBody sStr) (defScope sStr) .none kVStr dcStr pmStr anStr cdStr ctStr) (PySem.W.fnOf "_word" "_word" (defArgs sWord) (defBody sWord) (defScope sWord) .none kVword dcword pmword anword cdword ctword) (PySem.W.fnOf "read_state" "read_state" (defArgs sReadSt) (defBody sReadSt) (defScope sReadSt) .none kVreadSt dcreadSt pmreadSt anreadSt cdreadSt ctreadSt) (PySem.W.fnOf "read" "RowSet.read" (defArgs sRead) (defBody sRead) (defScope sRead) .none kVRead dcRead pmRead anRead cdRead ctRead) (PySem.W.fnOf "_law_draw" "_law_draw" (defArgs sDraw) (defBody sDraw) (defScope sDraw) .none kVdraw dcdraw pmdraw andraw cddraw ctdraw) (PySem.W.fnOf "_law_start" "_law_start" (defArgs sStart) (defBody sStart) (defScope sStart) .none kVstart dcstart pmstart anstart cdstart ctstart) (PySem.W.fnOf "_law_pick" "_law_pick" (defArgs sPick) (defBody sPick) (defScope sPick) .none kVpick dcpick pmpick anpick cdpick ctpick) (PySem.W.fnOf "_law_same" "_law_same" (defArgs sSame) (defBody sSame) (defScope sSame) .none kVsame dcsame pmsame ansame cdsame ctsame) (PySem.W.fnOf "_law_m_handed" "_law_m_handed" (defArgs sHanded) (defBody sHanded) (defScope sHanded) .none kVhand dchand pmhand anhand cdhand cthand) (PySem.W.fnOf "_law_m_entry" "_law_m_entry" (defArgs sEntry) (defBody sEntry) (defScope sEntry) .none kVentry dcentry pmentry anentry cdentry ctentry) (PySem.W.fnOf "_law_m_lines" "_law_m_lines" (defArgs sLines) (defBody sLines) (defScope sLines) .none kVlines dclines pmlines anlines cdlines ctlines) (PySem.W.fnOf "_law_entry" "_law_entry" (defArgs sLEntry) (defBody sLEntry) (defScope sLEntry) .none kVlentry dclentry pmlentry anlentry cdlentry ctlentry) (PySem.W.fnOf "_law_reading" "_law_reading" (defArgs sReading) (defBody sReading) (defScope sReading) .none kVrdg dcrdg pmrdg anrdg cdrdg ctrdg) (PySem.W.fnOf "_law_changed" "_law_changed" (defArgs sChanged) (defBody sChanged) (defScope sChanged) .none kVchg dcchg pmchg anchg cdchg ctchg) (PySem.W.fnOf "_law_fault" "_law_fault" (defArgs sFault) (defBody sFault) (defScope sFault) .none kVflt dcflt pmflt anflt cdflt ctflt) := ⟨⟨⟨PySem.W.mg_none_of X_ G zisinstance, PySem.W.mg_none_of X_ G zint, PySem.W.mg_none_of X_ G zbool, PySem.W.mg_none_of X_ G zlist, PySem.W.mg_none_of X_ G ztuple, PySem.W.mg_none_of X_ G zstr, PySem.W.mg_none_of X_ G zlen, PySem.W.mg_none_of X_ G zall, PySem.W.mg_none_of X_ G zzip, PySem.W.mg_none_of X_ G zrange, PySem.W.mg_none_of X_ G zmax, ⟨tkM, PySem.W.mg_of X_ G aMost⟩⟩, ⟨⟨pgC, hdC, poC, saC⟩, nCrows, PySem.W.mg_of X_ G aC, PySem.W.mg_of X_ G aFo, kit_cls iCF tCF sLF, kit_cls iCF tCF sTF⟩, ⟨xX, PySem.W.mg_of X_ G aX, kX, bX, tX, PySem.W.mg_of X_ G aP_, exm_2 bP_ isP_ tP_ sXP_, exm_2 bX isX tX sXX⟩, FCI, ⟨mkC, aCI, iCI, kcC⟩, bCI, ⟨FisInt, bisInt, PySem.W.mg_of X_ G aisInt⟩, ⟨Fbelow, bbelow, PySem.W.mg_of X_ G abelow⟩, ⟨FisRow, bisRow, PySem.W.mg_of X_ G aisRow⟩, ⟨Fcheck, bcheck, PySem.W.mg_of X_ G acheck⟩, FStr, bStr, ⟨aStr, iStr, kStr⟩, ⟨Fword, bword, PySem.W.mg_of X_ G aword⟩, ⟨FreadSt, breadSt, PySem.W.mg_of X_ G areadSt⟩⟩, ⟨⟨e1, e2, bX, e3, e4, e5, e6, e7⟩, kit_self, PySem.W.mg_of X_ G ac1, kit_2 neXc1 isc1 tc1 sXc1⟩, FRead, bRead, ⟨crd, cga⟩, ⟨cfi, ⟨_, aRead⟩, chi⟩, ⟨Fdraw, bdraw, PySem.W.mg_of X_ G adraw⟩, ⟨Fstart, bstart, PySem.W.mg_of X_ G astart⟩, ⟨Fpick, bpick, PySem.W.mg_of X_ G apick⟩, ⟨Fsame, bsame, PySem.W.mg_of X_ G asame⟩, ⟨Fhand, bhand, PySem.W.mg_of X_ G ahand⟩, ⟨Fentry, bentry, PySem.W.mg_of X_ G aentry⟩, ⟨Flines, blines, PySem.W.mg_of X_ G alines⟩, ⟨Flentry, blentry, PySem.W.mg_of X_ G alentry⟩, ⟨Frdg, brdg, PySem.W.mg_of X_ G ardg⟩, ⟨Fchg, bchg, PySem.W.mg_of X_ G achg⟩, ⟨Fflt, bflt, PySem.W.mg_of X_ G aflt⟩⟩
  exact ⟨PySem.W.fnOf "law" "law" (defArgs sLaw) (defBody sLaw) (defScope sLaw) .none kVLaw dcLaw pmLaw anLaw cdLaw ctLaw, fun s v => .of_eq rfl, fun base _ _ => ok_law (fun_mk (st := sLaw) lLaw cLaw kLaw) PR⟩
theorem walk_ {l : PySem.W.OpenLaw} {q : Program} {loose : List Str} {XP : (Str → Option Value) → Heap → Prop} {YP : World → Heap → Prop} {d : DefRec} {K : Params → PySem.W.Frag} (hn : l.most = some 63) (hdf : d.params.defaults = [])
    (hY : ∀ (w : World) (h : Heap), YP w h → (K w.params).In h)
    (F : ∀ (w : World) (mg : Str → Option Value) (fa : Addr) (h : Heap), (K w.params).In h → h.Ns mainGlobals mg → mg d.name = some (.ref fa) →
      ∃ fd : FuncData, (∀ (s : Shared) (u : Value), BindsTo s fd ⟨[u], []⟩ [("_law_script", u)]) ∧ ∀ base : Heap, (K w.params).In base → base.Ns mainGlobals mg → FnOk l.prog w (K w.params) mg base CX0 9 fa fd ["_law_script"] (spLaw (K w.params))) :
    PySem.W.WalkO q loose XP YP l.row.toRowW d [] (fun f vs => PySem.call f vs) :=
  L2.walk_of (n := 63) (k := 9) (x := "_law_script") (CX := fun _ => CX0) (sp := fun w => spLaw (K w.params)) hn (by decide) hdf ⟨rfl, by decide, by decide⟩ hY F (fun _ _ a ns hl _ hS => ⟨a, ns, rfl, hS, hl, fun _ => rfl⟩) fun _ _ _ _ _ z => z
end PA

open PySem PySem.W PyProof.Rows
set_option maxRecDepth 100000 in
set_option maxHeartbeats 0 in
theorem PySem.Challenge.cw_pairahead_k18_row_sets_made_holds : PySem.Challenge.rw_pairahead_k18_row_sets_made.Holds := by
  w_on; o_law; k_head; (case hw => w_witness2)
  k_fill
  refine PA.walk_ (l := PySem.Challenge.rw_pairahead_k18_row_sets_made) rfl rfl (fun w h Y => PySem.W.kIn_of Y) ?F
  case F =>
    intro w mg fa h KX G hmg
    refine' PA.all_mk KX G hmg ?aC ?pgC ?hdC ?poC ?saC ?kcC ?mkC ?nCrows ?aCI ?lCI ?cCI ?kCI ?iCI ?aFo ?iCF ?tCF ?sLF ?sTF ?aStr ?lStr ?cStr ?kStr ?iStr ?aX ?xX ?kX ?bX ?tX ?isX ?aP_ ?bP_ ?tP_ ?isP_ ?sXP_ ?sXX ?ac1 ?isc1 ?tc1 ?neXc1 ?sXc1 ?e1 ?e2 ?e3 ?e4 ?e5 ?e6 ?e7 ?zisinstance ?zint ?zbool ?zlist ?ztuple ?zstr ?zlen ?zall ?zzip ?zrange ?zmax ?aMost ?crd ?cga ?cfi ?aRead ?lRead ?cRead ?kRead ?chi ?aisInt ?lisInt ?cisInt ?kisInt ?abelow ?lbelow ?cbelow ?kbelow ?aisRow ?lisRow ?cisRow ?kisRow ?acheck ?lcheck ?ccheck ?kcheck ?aword ?lword ?cword ?kword ?areadSt ?lreadSt ?creadSt ?kreadSt ?adraw ?ldraw ?cdraw ?kdraw ?astart ?lstart ?cstart ?kstart ?apick ?lpick ?cpick ?kpick ?asame ?lsame ?csame ?ksame ?ahand ?lhand ?chand ?khand ?aentry ?lentry ?centry ?kentry ?alines ?llines ?clines ?klines ?alentry ?llentry ?clentry ?klentry ?ardg ?lrdg ?crdg ?krdg ?achg ?lchg ?cchg ?kchg ?aflt ?lflt ?cflt ?kflt ?aLaw ?lLaw ?cLaw ?kLaw
    (case aC => k_is)
    (case pgC => k_is)
    (case hdC => k_is)
    (case poC => k_is)
    (case saC => k_is)
    (case kcC => k_is)
    (case mkC => k_is)
    (case nCrows => k_is)
    (case aCI => k_is)
    (case lCI => k_is)
    (case cCI => k_is)
    (case kCI => k_is)
    (case iCI => k_is)
    (case aFo => k_is)
    (case iCF => k_is)
    (case tCF => k_is)
    (case sLF => k_is)
    (case sTF => k_is)
    (case aStr => k_is)
    (case lStr => k_is)
    (case cStr => k_is)
    (case kStr => k_is)
    (case iStr => k_is)
    (case aX => k_is)
    (case xX => k_exc)
    (case kX => k_is)
    (case bX => k_is)
    (case tX => k_is)
    (case isX => k_is)
    (case aP_ => k_is)
    (case bP_ => k_is)
    (case tP_ => k_is)
    (case isP_ => k_is)
    (case sXP_ => first | rfl | k_is)
    (case sXX => first | rfl | k_is)
    (case ac1 => k_is)
    (case isc1 => k_is)
    (case tc1 => k_is)
    (case neXc1 => first | rfl | decide | k_is)
    (case sXc1 => first | rfl | k_is)
    (case e1 => k_is)
    (case e2 => k_is)
    (case e3 => k_is)
    (case e4 => k_is)
    (case e5 => k_is)
    (case e6 => k_is)
    (case e7 => k_is)
    (case zisinstance => k_is)
    (case zint => k_is)
    (case zbool => k_is)
    (case zlist => k_is)
    (case ztuple => k_is)
    (case zstr => k_is)
    (case zlen => k_is)
    (case zall => k_is)
    (case zzip => k_is)
    (case zrange => k_is)
    (case zmax => k_is)
    (case aMost => k_is)
    (case crd => k_is)
    (case cga => k_is)
    (case cfi => k_is)
    (case aRead => k_is)
    (case lRead => k_is)
    (case cRead => k_is)
    (case kRead => k_is)
    (case chi => first | rfl | decide | k_is)
    (case aisInt => k_is)
    (case lisInt => k_is)
    (case cisInt => k_is)
    (case kisInt => k_is)
    (case abelow => k_is)
    (case lbelow => k_is)
    (case cbelow => k_is)
    (case kbelow => k_is)
    (case aisRow => k_is)
    (case lisRow => k_is)
    (case cisRow => k_is)
    (case kisRow => k_is)
    (case acheck => k_is)
    (case lcheck => k_is)
    (case ccheck => k_is)
    (case kcheck => k_is)
    (case aword => k_is)
    (case lword => k_is)
    (case cword => k_is)
    (case kword => k_is)
    (case areadSt => k_is)
    (case lreadSt => k_is)
    (case creadSt => k_is)
    (case kreadSt => k_is)
    (case adraw => k_is)
    (case ldraw => k_is)
    (case cdraw => k_is)
    (case kdraw => k_is)
    (case astart => k_is)
    (case lstart => k_is)
    (case cstart => k_is)
    (case kstart => k_is)
    (case apick => k_is)
    (case lpick => k_is)
    (case cpick => k_is)
    (case kpick => k_is)
    (case asame => k_is)
    (case lsame => k_is)
    (case csame => k_is)
    (case ksame => k_is)
    (case ahand => k_is)
    (case lhand => k_is)
    (case chand => k_is)
    (case khand => k_is)
    (case aentry => k_is)
    (case lentry => k_is)
    (case centry => k_is)
    (case kentry => k_is)
    (case alines => k_is)
    (case llines => k_is)
    (case clines => k_is)
    (case klines => k_is)
    (case alentry => k_is)
    (case llentry => k_is)
    (case clentry => k_is)
    (case klentry => k_is)
    (case ardg => k_is)
    (case lrdg => k_is)
    (case crdg => k_is)
    (case krdg => k_is)
    (case achg => k_is)
    (case lchg => k_is)
    (case cchg => k_is)
    (case kchg => k_is)
    (case aflt => k_is)
    (case lflt => k_is)
    (case cflt => k_is)
    (case kflt => k_is)
    (case aLaw => k_is)
    (case lLaw => k_is)
    (case cLaw => k_is)
    (case kLaw => k_is)
#print axioms PySem.Challenge.cw_pairahead_k18_row_sets_made_holds
