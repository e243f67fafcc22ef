import PyProof.Rows.All
import Wide.All
import OpenK.AllK
import Wide.FinOn
import HandS.ForMost
import HandS.IsInst
import HandS.Zip
import HandS.Wide
import HandS.Codes
import HandS.Evl
import HandS.Conv
import HandS.Defaults
import HandS.MakeKw
import HandS.Walk
import HandS.TupAny
import HandS.Words
import HandS.WordsList
import HandS.Text
import HandS.More
import HandS.Iter
import PyProof.StrReplace2
import HandS.ReplaceLit
import HandS.Replace
import HandS.Style
import HandS.OwnEq
import HandS.Gcd
import HandS.ExcBuiltin
import HandS.TryOnly
import HandS.ForExc
import HandS.FStr
import KE.KCallOwn
import PyProof.Conv_bool
import HandS.ClsMeth
import HandS.ExcOwn
import HandS.ExcIs
import HandS.WordsExc
import HandS.StrMore
import PySem.Challenge.RW_pairahead_k07_rule_texts_refused
import HandS.TupLe
import HandS.Comp
import HandS.Exc
import KE.GoesRaise
set_option Elab.async false
set_option linter.all false
set_option maxRecDepth 100000
set_option maxHeartbeats 2000000
/-! what serves every row -/
namespace L2
open PySem PySem.Spec PyProof.Rows
theorem PI.or {X : Cx} {tg l : Expr} {w1 w2 : TI} (h1 : PI X tg l w1) (h2 : PI X tg l w2) : PI X tg l (fun σ H R => w1 σ H R ∨ w2 σ H R) :=
  ⟨fun pins s σ H R I h => h.elim (h1.run pins s σ H R I) (h2.run pins s σ H R I)⟩
/-- a list or a tuple -/
def Sq (K : PySem.W.Frag) (H : Hp) (a : Addr) (xs : List V) : Prop := SqL K H a xs ∨ SqT K H a xs
theorem SqT.up {K : PySem.W.Frag} {H H' : Hp} {a : Addr} {xs : List V} (h : SqT K H a xs) (e : Same H H') : SqT K H' a xs :=
  h.elim (fun h => .inl (h.elim (fun h => .inl (e _ _ h)) fun ⟨o, h⟩ => .inr ⟨o, e _ _ h⟩)) fun h => .inr h
theorem SqL.up {K : PySem.W.Frag} {H H' : Hp} {a : Addr} {xs : List V} (h : SqL K H a xs) (e : Same H H') : SqL K H' a xs :=
  h.elim (fun h => .inl (h.elim (fun h => .inl (e _ _ h)) fun ⟨o, h⟩ => .inr ⟨o, e _ _ h⟩)) fun h => .inr h
theorem Sq.up {K : PySem.W.Frag} {H H' : Hp} {a : Addr} {xs : List V} (h : Sq K H a xs) (e : Same H H') : Sq K H' a xs := h.imp (fun h => SqL.up h e) fun h => SqT.up h e
theorem walk_l {K : PySem.W.Frag} {a : Addr} {xs : List V} : Walk (Itl K a) xs.length (fun H => SqL K H a xs) (YAt xs) :=
  ⟨fun i H hi q => ⟨xs, xs[i], q, by simp [hi]⟩, fun H q => ⟨xs, q, Nat.le_refl _⟩, fun i H x H' hi q y => ⟨y.1, y.2 xs q⟩⟩
theorem walk_t {K : PySem.W.Frag} {a : Addr} {xs : List V} : Walk (Itt K a) xs.length (fun H => SqT K H a xs) (YAt xs) :=
  ⟨fun i H hi q => ⟨xs, xs[i], q, by simp [hi]⟩, fun H q => ⟨xs, q, Nat.le_refl _⟩, fun i H x H' hi q y => ⟨y.1, y.2 xs q⟩⟩
/-- how a value that is a list or a tuple of xs stands, as one of the two -/
inductive Kind where
  | l | t
def Sk (K : PySem.W.Frag) (k : Kind) (H : Hp) (a : Addr) (xs : List V) : Prop := match k with
  | .l => SqL K H a xs
  | .t => SqT K H a xs
theorem Sk.sq {K : PySem.W.Frag} {k : Kind} {H : Hp} {a : Addr} {xs : List V} (h : Sk K k H a xs) : Sq K H a xs := by
  cases k
  · exact .inl h
  · exact .inr h
theorem Sk.up {K : PySem.W.Frag} {k : Kind} {H H' : Hp} {a : Addr} {xs : List V} (h : Sk K k H a xs) (e : Same H H') : Sk K k H' a xs := by
  cases k
  · exact SqL.up h e
  · exact SqT.up h e
theorem Sq.kind {K : PySem.W.Frag} {H : Hp} {a : Addr} {xs : List V} (h : Sq K H a xs) : ∃ k, Sk K k H a xs := h.elim (fun h => ⟨.l, h⟩) fun h => ⟨.t, h⟩
def ItSq (K : PySem.W.Frag) (k : Kind) (a : Addr) : It := match k with
  | .l => Itl K a
  | .t => Itt K a
theorem walk_k {K : PySem.W.Frag} {k : Kind} {a : Addr} {xs : List V} : Walk (ItSq K k a) xs.length (fun H => Sk K k H a xs) (YAt xs) := by
  cases k
  · exact walk_l
  · exact walk_t
/-- a walk over a list or a tuple -/
def iSq (K : PySem.W.Frag) (tl : TE) : TI := fun σ H R => ∃ k : Kind, tl σ H fun x H1 => ∃ a, x = .ref a ∧ (∃ xs, Sk K k H1 a xs) ∧ R (ItSq K k a) H1
theorem pi_sq {X : Cx} {tg l : Expr} {tl : TE} (hl : PE X l tl) : PI X tg l (iSq X.K tl) := by
  refine ⟨fun pins s σ H R I ⟨k, h⟩ => ?_⟩
  cases k
  · exact (pi_list hl).run pins s σ H R I h
  · exact (pi_tup hl).run pins s σ H R I h
/-! ### comprehensions -/
section
variable {J : It} {n : Nat} {G : Hp → Prop} {xs : List V} {g : TG} {tt : TT} {te : TE} {vs : List Nat} {σ : L2.St} {H1 : Hp} {D : Addr} {Qd : Hp → Prop}
theorem new_ {H : Hp} {p : Addr} {o : HO} (hp : H p = none) : Same H (upd H p o) := fun b u e => by
  rw [upd_ne (ne_of_none e hp)]
  exact e
/-- all but D is as it was -/
def But (D : Addr) (H H' : Hp) : Prop := ∀ c o, c ≠ D → H c = some o → H' c = some o
/-- the values are made one after another, the heap of before stays -/
theorem lc_acc (w : Walk J n G (YAt xs)) (hn : n ≤ sizeLine) (hD : H1 D = none) (hG : ∀ H, Same H1 H → G H) (A : Nat → List V → Hp → Prop) (hl : ∀ i acc H, A i acc H → acc.length ≤ i) (A0 : A 0 [] (upd H1 D (.lst [])))
    (hs : ∀ (i : Nat) (x : V) (H : Hp) (acc : List V) (Φ : V → Hp → Prop) (Ψ : Hp → Prop), i < n → xs[i]? = some x → Same H1 H → H D = some (.lst acc) → A i acc H →
      (∀ y H4, Same H H4 → H4 D = some (.lst acc) → (∀ H5, H5 D = some (.lst (acc ++ [y])) → But D H4 H5 → But D H5 H4 → A (i + 1) (acc ++ [y]) H5) → Φ y H4) →
      g x (wipe σ vs) H fun σ2 H2 => wipe σ2 vs = wipe σ vs ∧ tt σ2 H2 fun b H3 => if b = true then te σ2 H3 Φ else Ψ H3)
    (hd : ∀ H acc, Same H1 H → H D = some (.lst acc) → A n acc H → Qd H) :
    ∃ W : Nat → Nat → Hp → Prop, (∃ m, W 0 m (upd H1 D (.lst []))) ∧ ∀ i m H, W i m H →
      (J.stop i H ∧ Qd H) ∨ (J.go i H ∧ ∃ Nx : Hp → Prop, (∀ H', Nx H' → ∃ m', m' < m ∧ W (i + 1) m' H') ∧ ∀ x H', J.yld i H x H' → g x (wipe σ vs) H' fun σ2 H2 => wipe σ2 vs = wipe σ vs ∧ tt σ2 H2 fun b H3 =>
        if b = true then te σ2 H3 fun y H4 => ∃ acc, H4 D = some (.lst acc) ∧ acc.length < sizeLine ∧ Nx (upd H4 D (.lst (acc ++ [y]))) else Nx H3) := by
  refine lc_it w (fun i H => Same H1 H ∧ ∃ acc, H D = some (.lst acc) ∧ A i acc H) ⟨new_ hD, [], upd_same, A0⟩ (fun i H _ p => hG H p.1) (fun i x H H' hi p y => ?_) fun H p => ?_
  · obtain ⟨rfl, hx⟩ := y
    obtain ⟨sm, acc, hd', ha⟩ := p
    refine hs i x _ acc _ _ hi hx sm hd' ha fun y H4 s4 d4 k => ⟨acc, d4, Nat.lt_of_lt_of_le (Nat.lt_of_le_of_lt (hl _ _ _ ha) hi) hn, fun c o e => ?_, acc ++ [y], upd_same, k _ upd_same (fun c o cd e => ?_) fun c o cd e => ?_⟩
    · rw [upd_ne (ne_of_none e hD)]
      exact s4 _ _ (sm _ _ e)
    · rw [upd_ne cd]
      exact e
    · rw [upd_ne cd] at e
      exact e
  · obtain ⟨sm, acc, hd', ha⟩ := p
    exact hd H acc sm hd' ha
/-- values that do not hang on the heap -/
theorem lc_same (w : Walk J n G (YAt xs)) (hn : n ≤ sizeLine) (hD : H1 D = none) (hG : ∀ H, Same H1 H → G H) (ys : List V) (hy : ys.length = n)
    (hs : ∀ (i : Nat) (x y : V) (H : Hp) (Φ : V → Hp → Prop) (Ψ : Hp → Prop), xs[i]? = some x → ys[i]? = some y → Same H1 H → (∀ H4, Same H H4 → Φ y H4) →
      g x (wipe σ vs) H fun σ2 H2 => wipe σ2 vs = wipe σ vs ∧ tt σ2 H2 fun b H3 => if b = true then te σ2 H3 Φ else Ψ H3)
    (hd : ∀ H, Same H1 H → H D = some (.lst ys) → Qd H) :
    ∃ W : Nat → Nat → Hp → Prop, (∃ m, W 0 m (upd H1 D (.lst []))) ∧ ∀ i m H, W i m H →
      (J.stop i H ∧ Qd H) ∨ (J.go i H ∧ ∃ Nx : Hp → Prop, (∀ H', Nx H' → ∃ m', m' < m ∧ W (i + 1) m' H') ∧ ∀ x H', J.yld i H x H' → g x (wipe σ vs) H' fun σ2 H2 => wipe σ2 vs = wipe σ vs ∧ tt σ2 H2 fun b H3 =>
        if b = true then te σ2 H3 fun y H4 => ∃ acc, H4 D = some (.lst acc) ∧ acc.length < sizeLine ∧ Nx (upd H4 D (.lst (acc ++ [y]))) else Nx H3) := by
  refine lc_acc w hn hD hG (fun i acc _ => acc = ys.take i) (fun i acc H e => by rw [e, List.length_take]; omega) (by rw [List.take_zero]) (fun i x H acc Φ Ψ hi hx sm hd' ha k => ?_) fun H acc sm hd' ha => hd H sm ?_
  · have hi' : i < ys.length := by omega
    have ey : ys[i]? = some ys[i] := List.getElem?_eq_getElem hi'
    refine hs i x ys[i] H Φ Ψ hx ey sm fun H4 s4 => k _ H4 s4 (s4 _ _ hd') fun H5 _ _ _ => ?_
    rw [ha, List.take_add_one, ey]
    rfl
  · rw [hd', ha, ← hy, List.take_length]
end
/-! ### x in an instance with the own method -/
section
variable {X : Cx} {CX : CXT} {k : Nat} {C f : Addr} {fd : FuncData} {ps : List Str} {sp : Sp} {E : XK}
theorem op_inOwn (hs : PySem.W.findIn X.K (.ref C) "__contains__" = some (some (.ref f))) (hf : PySem.W.isFn X.K (.ref f) = true) (F : FnOk X.prog X.w X.K X.mg X.base CX k f fd ps sp) (hr : Room k X.A) (hb : Binds X.K fd ps []) (hx : Passes CX X E) :
    OpR X (compareOp .In) (fun x y H Q => ∃ a dx fs, y = .ref a ∧ H a = some (.ins C dx fs) ∧ sp [.ref a, x] H (fun v H' => ∃ b, v = .bl b ∧ Q (.bl b) H') E) := by
  intro pins s σ H x y v u Q I rx ry h
  obtain ⟨a, dx, fs, rfl, ha, q⟩ := h
  cases ry
  obtain ⟨mA, J, _⟩ := ins_get I.hok ha
  obtain ⟨od, J, _⟩ := J.look
  obtain ⟨m, hF⟩ := I.fr
  refine PySem.W.in_K hF I.ok.mod.kin J hs hf ?_
  refine wpAny_mono (run_fn (us := [.ref a, v]) (vs := [.ref a, x]) F hr hb .nil hx I (.cons rfl (.cons rx .nil)) q) (fun w s' z => ?_) fun _ _ z => z
  obtain ⟨v', H', I', rv, b, rfl, q'⟩ := z
  cases rv
  exact wpAny_truthy_bool ⟨.bl b, H', I', rfl, q'⟩
theorem op_notInOwn (hs : PySem.W.findIn X.K (.ref C) "__contains__" = some (some (.ref f))) (hf : PySem.W.isFn X.K (.ref f) = true) (F : FnOk X.prog X.w X.K X.mg X.base CX k f fd ps sp) (hr : Room k X.A) (hb : Binds X.K fd ps []) (hx : Passes CX X E) :
    OpR X (compareOp .NotIn) (fun x y H Q => ∃ a dx fs, y = .ref a ∧ H a = some (.ins C dx fs) ∧ sp [.ref a, x] H (fun v H' => ∃ b, v = .bl b ∧ Q (.bl (!b)) H') E) := by
  intro pins s σ H x y v u Q I rx ry h
  obtain ⟨a, dx, fs, rfl, ha, q⟩ := h
  cases ry
  obtain ⟨mA, J, _⟩ := ins_get I.hok ha
  obtain ⟨od, J, _⟩ := J.look
  obtain ⟨m, hF⟩ := I.fr
  refine PySem.W.notIn_K hF I.ok.mod.kin J hs hf ?_
  refine wpAny_mono (run_fn (us := [.ref a, v]) (vs := [.ref a, x]) F hr hb .nil hx I (.cons rfl (.cons rx .nil)) q) (fun w s' z => ?_) fun _ _ z => z
  obtain ⟨v', H', I', rv, b, rfl, q'⟩ := z
  cases rv
  exact wpAny_truthy_bool ⟨.bl (!b), H', I', rfl, q'⟩
end
end L2

set_option maxHeartbeats 2000000
namespace L2
open PySem PySem.Spec PyProof.Rows RZ
/-! ### zip, slices of lists and tuples -/
theorem walk_zipT {K : PySem.W.Frag} {a b : Addr} {xs ys : List V} {n : Nat} (hn : n = min xs.length ys.length) : Walk (ItzT K a b) n (fun H => SqT K H a xs ∧ SqT K H b ys) (YPair (fun i => xs[i]?) (fun i => ys[i]?)) :=
  ⟨fun i H hi q => ⟨xs, ys, xs[i]'(by omega), ys[i]'(by omega), q.1, q.2, List.getElem?_eq_getElem _, List.getElem?_eq_getElem _⟩,
    fun H q => ⟨xs, ys, q.1, q.2, by omega⟩, fun i H v H' hi q y => by
      obtain ⟨T, x, y', rfl, hT, rfl, f1, f2⟩ := y
      exact ⟨T, x, y', rfl, hT, rfl, f1 xs q.1, f2 ys q.2⟩⟩
def ItZk (K : PySem.W.Frag) (k : Kind) (a b : Addr) : It := match k with
  | .l => Itz K a b
  | .t => ItzT K a b
theorem walk_zk {K : PySem.W.Frag} {k : Kind} {a b : Addr} {xs ys : List V} {n : Nat} (hn : n = min xs.length ys.length) : Walk (ItZk K k a b) n (fun H => Sk K k H a xs ∧ Sk K k H b ys) (YPair (fun i => xs[i]?) (fun i => ys[i]?)) := by
  cases k
  · exact walk_zip hn
  · exact walk_zipT hn
theorem zip_k {K : PySem.W.Frag} {k : Kind} {H : Hp} {a b : Addr} {xs ys : List V} {R : It → Hp → Prop} (ha : Sk K k H a xs) (hb : Sk K k H b ys) (h : R (ItZk K k a b) H) :
    (SqL K H a xs ∧ SqL K H b ys ∧ R (Itz K a b) H) ∨ (SqT K H a xs ∧ SqT K H b ys ∧ R (ItzT K a b) H) := by
  cases k
  · exact .inl ⟨ha, hb, h⟩
  · exact .inr ⟨ha, hb, h⟩
theorem cut_all {xs : List V} {lo hi : Option Int} (h : HT.sIx xs.length 0 lo = 0 ∧ HT.sIx xs.length xs.length hi = xs.length) : cutV xs lo hi = xs := by
  unfold cutV
  rw [h.1, h.2, List.drop_zero, Nat.sub_zero, List.take_length]
theorem sl_k {K : PySem.W.Frag} {k : Kind} {H : Hp} {a : Addr} {xs : List V} {lo hi : Option Int} {Q : V → Hp → Prop} (ha : Sk K k H a xs) (h : ∀ p H', Same H H' → Sk K k H' p (cutV xs lo hi) → Q (.ref p) H') :
    rSlL K (.ref a) lo hi H Q ∨ rSlA K (.ref a) lo hi H Q := by
  cases k
  · exact .inl ⟨a, xs, rfl, ha, fun p hp => h p _ (new_ hp) (SqL.of upd_same)⟩
  · exact .inr ⟨a, xs, rfl, ha, fun w => h a H (fun _ _ e => e) (by rw [cut_all w]; exact ha), fun _ p hp => h p _ (new_ hp) (SqT.of upd_same)⟩
theorem cut_1 (xs : List V) : cutV xs (some (1 : Int)) none = xs.drop 1 := by
  unfold cutV
  rw [show (1 : Int) = ((1 : Nat) : Int) from rfl, HT.sIx_nat, HT.sIx_none]
  rcases Nat.eq_zero_or_pos xs.length with h | h
  · have : xs = [] := List.length_eq_zero_iff.mp h
    subst this
    rfl
  · rw [Nat.min_eq_left h, List.take_of_length_le (by rw [List.length_drop]; exact Nat.le_refl _)]
theorem cut_to (xs : List V) (n : Nat) : cutV xs none (some (n : Int)) = xs.take n := by
  unfold cutV
  rw [HT.sIx_nat, HT.sIx_none, List.drop_zero, Nat.sub_zero]
  rcases Nat.le_total n xs.length with h | h
  · rw [Nat.min_eq_left h]
  · rw [Nat.min_eq_right h, List.take_length, List.take_of_length_le h]
/-! ### small words -/
theorem take_succ' {α : Type} {l : List α} {i : Nat} {x : α} (h : l[i]? = some x) : l.take (i + 1) = l.take i ++ [x] := by
  rw [List.take_add_one, h]
  rfl
theorem ifD_no {p A B : Prop} [Decidable p] (h : ¬ p) (q : B) : if decide p = true then A else B := by
  rw [decide_eq_false h]
  exact iteF q
theorem ifD_yes {p A B : Prop} [Decidable p] (h : p) (q : A) : if decide p = true then A else B := by
  rw [decide_eq_true h]
  exact iteT q
theorem ifD_2 {p A B : Prop} [Decidable p] (h1 : p → A) (h2 : ¬ p → B) : if decide p = true then A else B := by
  by_cases h : p
  · exact ifD_yes h (h1 h)
  · exact ifD_no h (h2 h)
theorem ifB_2 {b : Bool} {A B : Prop} (h1 : b = true → A) (h2 : b = false → B) : if b = true then A else B := by
  cases b
  · exact iteF (h2 rfl)
  · exact iteT (h1 rfl)
theorem Same.none {H H' : Hp} {x : Addr} (s : Same H H') (h : H' x = Option.none) : H x = Option.none := by
  cases e : H x with
  | none => rfl
  | some o => rw [s _ _ e] at h; cases h
theorem all_true (n : Nat) : (List.replicate n true).all id = true := by
  rw [List.all_eq_true]
  intro x hx
  rw [(List.mem_replicate.mp hx).2]
  rfl
theorem boot_isi : bootBuiltins "isinstance" = some (.builtin "isinstance") := by decide +kernel
theorem boot_int' : bootBuiltins "int" = some (.type "int") := by decide +kernel
theorem boot_bool' : bootBuiltins "bool" = some (.type "bool") := by decide +kernel
theorem boot_tuple' : bootBuiltins "tuple" = some (.type "tuple") := by decide +kernel
theorem boot_list' : bootBuiltins "list" = some (.type "list") := by decide +kernel
theorem boot_all' : bootBuiltins "all" = some (.builtin "all") := by decide +kernel
structure Df (K : PySem.W.Frag) (mg : Str → Option Value) (x : Str) (st : Stmt) (f : Addr) (fd : FuncData) (ps : List Str) : Prop where
  F : Fun K x x st f fd
  B : Binds K fd ps []
  M : mg x = some (.ref f)
def rTupK (K : PySem.W.Frag) : List V → Hp → (V → Hp → Prop) → Prop := fun xs H Q => ∃ p ys, xs = [.ref p] ∧ ((SqL K H p ys ∧ ∀ l, H l = none → Q (.ref l) (upd H l (.tup ys))) ∨ (SqT K H p ys ∧ Q (.ref p) H))
theorem call_tupleK {X : Cx} {K : PySem.W.Frag} (h : X.K = K) : CallR X (.type "tuple") (rTupK K) := h ▸ call_tuple_of
def rLstK (K : PySem.W.Frag) : List V → Hp → (V → Hp → Prop) → Prop := fun xs H Q => ∃ p ys, xs = [.ref p] ∧ (SqL K H p ys ∨ SqT K H p ys) ∧ ∀ l, H l = none → Q (.ref l) (upd H l (.lst ys))
theorem call_listK {X : Cx} {K : PySem.W.Frag} (h : X.K = K) : CallR X (.type "list") (rLstK K) := h ▸ call_list_of
def rLenK (K : PySem.W.Frag) : List V → Hp → (V → Hp → Prop) → Prop := fun xs H Q => ∃ p ys, xs = [.ref p] ∧ (SqL K H p ys ∨ SqT K H p ys) ∧ Q (.int ys.length) H
theorem call_lenK {X : Cx} {K : PySem.W.Frag} (h : X.K = K) : CallR X (.builtin "len") (rLenK K) := h ▸ call_len_seq
def rIxTK (K : PySem.W.Frag) : R2 := fun x y H Q => ∃ p xs i v, x = .ref p ∧ y = .int i ∧ SqT K H p xs ∧ atI xs i = some v ∧ Q v H
theorem ix_tupK {X : Cx} {K : PySem.W.Frag} (h : X.K = K) : IxR X (rIxTK K) := h ▸ ix_tup
/-! ### what stands at each place of a list of references -/
def Ea {α : Type} (H : Hp) (P : Hp → Addr → α → Prop) (xs : List V) (ds : List α) : Prop := xs.length = ds.length ∧ ∀ (i : Nat) (x : V) (r : α), xs[i]? = some x → ds[i]? = some r → ∃ c, x = .ref c ∧ P H c r
section
variable {α : Type} {H H' : Hp} {P P' : Hp → Addr → α → Prop} {xs ys : List V} {ds es : List α} {c : Addr} {r : α}
theorem Ea.imp (e : Ea H P xs ds) (f : ∀ c r, P H c r → P' H' c r) : Ea H' P' xs ds := ⟨e.1, fun i x r h1 h2 => let ⟨c, hx, q⟩ := e.2 i x r h1 h2; ⟨c, hx, f c r q⟩⟩
theorem Ea.nil : Ea H P [] [] := ⟨rfl, fun i x r h _ => by simp at h⟩
theorem Ea.append (e : Ea H P xs ds) (e' : Ea H P ys es) : Ea H P (xs ++ ys) (ds ++ es) := by
  refine ⟨by rw [List.length_append, List.length_append, e.1, e'.1], fun i x r h1 h2 => ?_⟩
  rcases Nat.lt_or_ge i xs.length with hi | hi
  · rw [List.getElem?_append_left hi] at h1
    rw [List.getElem?_append_left (by rw [← e.1]; exact hi)] at h2
    exact e.2 i x r h1 h2
  · rw [List.getElem?_append_right hi] at h1
    rw [List.getElem?_append_right (by rw [← e.1]; exact hi), ← e.1] at h2
    exact e'.2 _ x r h1 h2
theorem Ea.one (q : P H c r) : Ea H P [.ref c] [r] := by
  refine ⟨rfl, fun i x r' h1 h2 => ?_⟩
  match i, h1, h2 with
  | 0, h1, h2 =>
    cases h1
    cases h2
    exact ⟨c, rfl, q⟩
  | (j + 1), h1, _ => simp at h1
theorem Ea.push (e : Ea H P xs ds) (q : P H c r) : Ea H P (xs ++ [.ref c]) (ds ++ [r]) := e.append (.one q)
theorem Ea.get (e : Ea H P xs ds) {i : Nat} {r : α} (h : ds[i]? = some r) : ∃ c, xs[i]? = some (.ref c) ∧ P H c r := by
  have hi : i < xs.length := by rw [e.1]; exact (List.getElem?_eq_some_iff.mp h).1
  obtain ⟨c, hc, q⟩ := e.2 i _ r (List.getElem?_eq_getElem hi) h
  exact ⟨c, by rw [List.getElem?_eq_getElem hi, hc], q⟩
theorem Ea.at_ (e : Ea H P xs ds) {i : Nat} {x : V} (h : xs[i]? = some x) : ∃ c r, x = .ref c ∧ ds[i]? = some r ∧ P H c r := by
  have hi : i < ds.length := by rw [← e.1]; exact (List.getElem?_eq_some_iff.mp h).1
  obtain ⟨c, hc, q⟩ := e.2 i _ _ h (List.getElem?_eq_getElem hi)
  exact ⟨c, _, hc, List.getElem?_eq_getElem hi, q⟩
end
/-- a tuple at c of what r is written as -/
def TupOf {α : Type} (f : α → List V) (H : Hp) (c : Addr) (r : α) : Prop := H c = some (.tup (f r))
section
variable {α : Type} {f : α → List V} {H H' : Hp} {xs : List V} {ds : List α} {c p C dx : Addr} {r : α}
theorem TupOf.lst {ys zs : List V} (q : TupOf f H c r) (hD : H p = some (.lst ys)) : TupOf f (upd H p (.lst zs)) c r := by
  unfold TupOf
  rw [upd_ne (ne_of (H := H) q hD (by intro z; cases z))]
  exact q
theorem TupOf.ins {fs : List (Str × V)} {o : HO} (q : TupOf f H c r) (hp : H p = some (.ins C dx fs)) : TupOf f (upd H p o) c r := by
  unfold TupOf
  rw [upd_ne (ne_of (H := H) q hp (by intro z; cases z))]
  exact q
theorem TupOf.but {ys : List V} (q : TupOf f H c r) (hD : H p = some (.lst ys)) (b : But p H H') : TupOf f H' c r := b _ _ (ne_of (H := H) q hD (by intro z; cases z)) q
theorem Ea.same (e : Ea H (TupOf f) xs ds) (s : Same H H') : Ea H' (TupOf f) xs ds := e.imp fun c r q => s _ _ q
end
end L2

set_option maxHeartbeats 2000000
namespace PA
/-- below 2 ^ n in size -/
abbrev Sm (n : Nat) (x : Int) : Prop := x.natAbs < 2 ^ n
theorem Sm.mono {n m : Nat} {x : Int} (h : Sm n x) (hn : n ≤ m) : Sm m x := Nat.lt_of_lt_of_le h (Nat.pow_le_pow_right (by decide) hn)
theorem Sm.mul {n m k : Nat} {x y : Int} (hx : Sm n x) (hy : Sm m y) (h : n + m ≤ k) : Sm k (x * y) := by
  refine Sm.mono (n := n + m) ?_ h
  unfold Sm
  rw [Int.natAbs_mul, Nat.pow_add]
  exact Nat.mul_lt_mul'' hx hy
theorem Sm.add {n k : Nat} {x y : Int} (hx : Sm n x) (hy : Sm n y) (h : n + 1 ≤ k) : Sm k (x + y) := by
  refine Sm.mono (n := n + 1) ?_ h
  unfold Sm at *
  rw [Nat.pow_succ]
  omega
theorem Sm.sub {n k : Nat} {x y : Int} (hx : Sm n x) (hy : Sm n y) (h : n + 1 ≤ k) : Sm k (x - y) := by
  refine Sm.mono (n := n + 1) ?_ h
  unfold Sm at *
  rw [Nat.pow_succ]
  omega
theorem Sm.neg {n : Nat} {x : Int} (hx : Sm n x) : Sm n (-x) := by
  unfold Sm at *
  rw [Int.natAbs_neg]
  exact hx
theorem Sm.le {n : Nat} {x y : Int} (hx : Sm n x) (h : y.natAbs ≤ x.natAbs) : Sm n y := Nat.lt_of_le_of_lt h hx
theorem Sm.one {n : Nat} (h : 0 < n) : Sm n 1 := by
  show (1 : Int).natAbs < 2 ^ n
  exact Nat.one_lt_two_pow (by omega)

/-- the divisor that a Ratio shortens by -/
def shr (t b : Int) : Int := if b < 0 then -((Nat.gcd t.natAbs b.natAbs : Nat) : Int) else ((Nat.gcd t.natAbs b.natAbs : Nat) : Int)
/-- lowest terms -/
structure Low (T B : Int) : Prop where
  pos : 0 < B
  cop : Nat.gcd T.natAbs B.natAbs = 1
theorem low_one (i : Int) : Low i 1 := ⟨by decide, Nat.gcd_one_right _⟩
theorem gcd_key {a b c d g : Nat} (h1 : a = c * g) (h2 : b = d * g) : Nat.gcd a b = Nat.gcd c d * g := by
  rw [h1, h2]
  exact Nat.gcd_mul_right _ _ _
theorem rat_mk {t b : Int} (hb : b ≠ 0) : shr t b ≠ 0 ∧ (shr t b).natAbs ≤ b.natAbs ∧ Low (t.fdiv (shr t b)) (b.fdiv (shr t b)) ∧ (t.fdiv (shr t b)) * b = t * (b.fdiv (shr t b)) ∧
    (t.fdiv (shr t b)).natAbs ≤ t.natAbs ∧ (b.fdiv (shr t b)).natAbs ≤ b.natAbs := by
  have hg : 0 < Nat.gcd t.natAbs b.natAbs := Nat.gcd_pos_of_pos_right _ (Int.natAbs_pos.mpr hb)
  have hgb : Nat.gcd t.natAbs b.natAbs ≤ b.natAbs := Nat.gcd_le_right _ (Int.natAbs_pos.mpr hb)
  have hsn : (shr t b).natAbs = Nat.gcd t.natAbs b.natAbs := by
    unfold shr
    split
    · rw [Int.natAbs_neg, Int.natAbs_natCast]
    · rw [Int.natAbs_natCast]
  have hs0 : shr t b ≠ 0 := by
    intro z
    rw [z] at hsn
    simp at hsn
    omega
  have dv : ∀ y : Int, (Nat.gcd t.natAbs b.natAbs) ∣ y.natAbs → ∃ q : Int, y = q * shr t b := by
    intro y hy
    have h1 : ((Nat.gcd t.natAbs b.natAbs : Nat) : Int) ∣ y := Int.ofNat_dvd_left.mpr hy
    obtain ⟨q, hq⟩ := h1
    unfold shr
    split
    · exact ⟨-q, by rw [Int.neg_mul_neg, Int.mul_comm]; exact hq⟩
    · exact ⟨q, by rw [Int.mul_comm]; exact hq⟩
  obtain ⟨T, hT⟩ := dv t (Nat.gcd_dvd_left _ _)
  obtain ⟨B, hB⟩ := dv b (Nat.gcd_dvd_right _ _)
  have eT : t.fdiv (shr t b) = T := by
    conv => lhs; lhs; rw [hT]
    exact Int.mul_fdiv_cancel _ hs0
  have eB : b.fdiv (shr t b) = B := by
    conv => lhs; lhs; rw [hB]
    exact Int.mul_fdiv_cancel _ hs0
  rw [eT, eB]
  have nT : t.natAbs = T.natAbs * Nat.gcd t.natAbs b.natAbs := by
    conv => lhs; rw [hT, Int.natAbs_mul, hsn]
  have nB : b.natAbs = B.natAbs * Nat.gcd t.natAbs b.natAbs := by
    conv => lhs; rw [hB, Int.natAbs_mul, hsn]
  refine ⟨hs0, by rw [hsn]; exact hgb, ⟨?_, ?_⟩, ?_, ?_, ?_⟩
  · have hB0 : B ≠ 0 := by
      intro z
      rw [z, Int.zero_mul] at hB
      exact hb hB
    rcases Int.lt_or_gt_of_ne hB0 with h | h
    · exfalso
      unfold shr at hB
      split at hB
      · rename_i hneg
        have : 0 < B * -((Nat.gcd t.natAbs b.natAbs : Nat) : Int) := Int.mul_pos_of_neg_of_neg h (by omega)
        omega
      · rename_i hneg
        have : B * ((Nat.gcd t.natAbs b.natAbs : Nat) : Int) < 0 := Int.mul_neg_of_neg_of_pos h (by omega)
        omega
    · exact h
  · have e : Nat.gcd t.natAbs b.natAbs = Nat.gcd T.natAbs B.natAbs * Nat.gcd t.natAbs b.natAbs := by
      exact gcd_key nT nB
    have e2 : 1 * Nat.gcd t.natAbs b.natAbs = Nat.gcd T.natAbs B.natAbs * Nat.gcd t.natAbs b.natAbs := by rw [Nat.one_mul]; exact e
    exact (Nat.eq_of_mul_eq_mul_right hg e2).symm
  · calc T * b = T * (B * shr t b) := by rw [← hB]
      _ = (T * shr t b) * B := by rw [Int.mul_comm B, ← Int.mul_assoc]
      _ = t * B := by rw [← hT]
  · rw [nT]; exact Nat.le_mul_of_pos_right _ hg
  · rw [nB]; exact Nat.le_mul_of_pos_right _ hg
/-- a fraction has one lowest form -/
theorem Low.uniq {T B T' B' : Int} (h : Low T B) (h' : Low T' B') (e : T * B' = T' * B) : T = T' ∧ B = B' := by
  have n : T.natAbs * B'.natAbs = T'.natAbs * B.natAbs := by rw [← Int.natAbs_mul, ← Int.natAbs_mul, e]
  have d1 : B.natAbs ∣ B'.natAbs := by
    have : B.natAbs ∣ T.natAbs * B'.natAbs := ⟨T'.natAbs, by rw [n, Nat.mul_comm]⟩
    exact (Nat.Coprime.symm h.cop).dvd_of_dvd_mul_left this
  have d2 : B'.natAbs ∣ B.natAbs := by
    have : B'.natAbs ∣ T'.natAbs * B.natAbs := ⟨T.natAbs, by rw [← n, Nat.mul_comm]⟩
    exact (Nat.Coprime.symm h'.cop).dvd_of_dvd_mul_left this
  have eB : B = B' := by
    have := Nat.dvd_antisymm d1 d2
    have p1 := h.pos
    have p2 := h'.pos
    omega
  subst eB
  have hB : B ≠ 0 := by have := h.pos; omega
  exact ⟨Int.eq_of_mul_eq_mul_right hB e, rfl⟩
theorem Low.neg {T B : Int} (h : Low T B) : Low (-T) B := ⟨h.pos, by rw [Int.natAbs_neg]; exact h.cop⟩
/-- a = n / d and b = n / d -/
theorem cross {a b n d x y : Int} (hb : b ≠ 0) (h1 : a * d = n * b) (h2 : n * y = x * d) (hd : d ≠ 0) : a * y = x * b := by
  have : (a * y) * d = (x * b) * d := by
    calc (a * y) * d = (a * d) * y := by rw [Int.mul_assoc, Int.mul_comm y, ← Int.mul_assoc]
      _ = (n * b) * y := by rw [h1]
      _ = (n * y) * b := by rw [Int.mul_assoc, Int.mul_comm b, ← Int.mul_assoc]
      _ = (x * d) * b := by rw [h2]
      _ = (x * b) * d := by rw [Int.mul_assoc, Int.mul_comm d, ← Int.mul_assoc]
  exact Int.eq_of_mul_eq_mul_right hd this
end PA

set_option maxHeartbeats 4000000
/-! texts: the parts of what was joined -/
namespace TS
open PySem PySem.StrLaws
/-- the code points -/
abbrev cs (x : Str) : List Nat := x.cps.toList
theorem cs_app (x y : Str) : cs (x ++ y) = cs x ++ cs y := by
  show (x.cps ++ y.cps).toList = _
  simp
theorem cs_inj {x y : Str} (h : cs x = cs y) : x = y := by
  cases x with
  | mk a =>
    cases y with
    | mk b => exact congrArg Str.mk (Array.toList_inj.mp h)
theorem cs_len (x : Str) : x.length = (cs x).length := by
  show x.cps.size = _
  simp
theorem at_get {x sub : Str} {i : Nat} (h : At x sub x.length i) {j : Nat} (hj : j < (cs sub).length) : (cs x)[i + j]? = (cs sub)[j]? := by
  obtain ⟨_, h2⟩ := h
  rw [subAt_eq] at h2
  have e : List.take sub.length (List.drop i (cs x)) = cs sub := by simpa using h2
  rw [← e, List.getElem?_take, if_pos (by rw [cs_len]; exact hj), List.getElem?_drop]
theorem at_of {x sub : Str} {pre post : List Nat} (h : cs x = pre ++ cs sub ++ post) : At x sub x.length pre.length := by
  refine ⟨?_, ?_⟩
  · rw [cs_len x, h, cs_len sub]
    simp
  · rw [subAt_eq]
    have : List.take sub.length (List.drop pre.length (cs x)) = cs sub := by
      rw [h, List.append_assoc, List.drop_left, cs_len, List.take_left]
    simpa using this
theorem sub_mid {x : Str} {pre mid post : List Nat} (h : cs x = pre ++ mid ++ post) {y : Str} (hy : cs y = mid) : Builtin.Str.strSub x pre.length (pre.length + mid.length) = y := by
  apply cs_inj
  show (Builtin.Str.strSub x pre.length (pre.length + mid.length)).cps.toList = _
  rw [strSub_toList, hy, show x.cps.toList = pre ++ mid ++ post from h]
  rw [show pre.length + mid.length - pre.length = mid.length from by omega, List.append_assoc, List.drop_left, List.take_left]
theorem sub_all (x : Str) : Builtin.Str.strSub x 0 x.length = x := by
  have := sub_mid (x := x) (pre := []) (mid := cs x) (post := []) (by simp) rfl
  rw [cs_len]
  simpa using this
theorem join_two (sep y z : Str) (r : List Str) : sep.join (y :: z :: r) = y ++ sep ++ sep.join (z :: r) := Str.join.eq_3 _ _ _ (by simp)
theorem chain_parts {x sep : Str} {c0 : Nat} {t : List Nat} (hsep : cs sep = c0 :: t) : ∀ (ys : List Str) (pre : List Nat) (cuts : List Nat) (f : Nat), ys ≠ [] → cs x = pre ++ cs (sep.join ys) → (∀ y ∈ ys, c0 ∉ cs y) →
    ChainG x sep x.length pre.length cuts f → (∀ k, f ≤ k → ¬ At x sep x.length k) → partsFrom x sep.length pre.length cuts = ys
  | [], _, _, _, h, _, _, _, _ => absurd rfl h
  | [y], pre, cuts, f, _, hx, hf, hc, hn => by
    rw [Str.join.eq_2] at hx
    cases cuts with
    | nil =>
      rw [partsFrom.eq_1]
      have e := sub_mid (x := x) (pre := pre) (mid := cs y) (post := []) (by simpa using hx) rfl
      have el : x.length = pre.length + (cs y).length := by rw [cs_len x, hx, List.length_append]
      rw [el, e]
    | cons c r =>
      rw [ChainG.eq_2] at hc
      obtain ⟨h1, h2, _⟩ := hc
      have h3 := at_get h2 (j := 0) (by rw [hsep]; simp)
      rw [hsep, Nat.add_zero, hx, List.getElem?_append_right h1] at h3
      exact absurd (List.mem_of_getElem? h3) (hf y (by simp))
  | y :: z :: r, pre, cuts, f, _, hx, hf, hc, hn => by
    rw [join_two, cs_app, cs_app] at hx
    have hat : At x sep x.length (pre.length + (cs y).length) := by
      have := at_of (x := x) (sub := sep) (pre := pre ++ cs y) (post := cs (sep.join (z :: r))) (by rw [hx]; simp)
      simpa using this
    have hno : ∀ k, pre.length ≤ k → k < pre.length + (cs y).length → ¬ At x sep x.length k := by
      intro k k1 k2 h2
      have h3 := at_get h2 (j := 0) (by rw [hsep]; simp)
      rw [hsep, Nat.add_zero, hx, List.getElem?_append_right k1, List.append_assoc, List.getElem?_append_left (by omega)] at h3
      exact hf y (by simp) (List.mem_of_getElem? h3)
    cases cuts with
    | nil =>
      rw [ChainG.eq_1] at hc
      exact absurd hat (hn _ (by omega))
    | cons c r' =>
      rw [ChainG.eq_2] at hc
      obtain ⟨h1, h2, h3, h4⟩ := hc
      have ec : c = pre.length + (cs y).length := by
        rcases Nat.lt_trichotomy c (pre.length + (cs y).length) with q | q | q
        · exact absurd h2 (hno c h1 q)
        · exact q
        · exact absurd hat (h3 _ (by omega) q)
      subst ec
      rw [partsFrom.eq_2]
      have e := sub_mid (x := x) (pre := pre) (mid := cs y) (post := cs sep ++ cs (sep.join (z :: r))) (by rw [hx]; simp) rfl
      rw [e]
      have hp : pre.length + (cs y).length + sep.length = (pre ++ cs y ++ cs sep).length := by rw [cs_len sep]; simp only [List.length_append]
      rw [hp] at h4 ⊢
      rw [chain_parts hsep (z :: r) (pre ++ cs y ++ cs sep) r' f (by simp) (by rw [hx]; simp) (fun y' hy' => hf y' (List.mem_cons_of_mem _ hy')) h4 hn]
theorem kind_pos (x : Str) : 1 ≤ Builtin.Str.strKind x := by
  unfold Builtin.Str.strKind
  split
  · exact Nat.le_refl _
  · split <;> omega
theorem split_join {sep : Str} {c0 : Nat} {t : List Nat} (hsep : cs sep = c0 :: t) (hk : Builtin.Str.strKind sep = 1) {ys : List Str} (h0 : ys ≠ []) (hf : ∀ y ∈ ys, c0 ∉ cs y) : Txt.split (Txt.join sep ys) sep = ys := by
  have ej : Txt.join sep ys = sep.join ys := glued_eq_join sep ys
  rw [ej]
  generalize hx : sep.join ys = x
  have h1 : 1 ≤ sep.length := by rw [cs_len, hsep]; simp
  obtain ⟨f, hc, hn⟩ := occ_tight x sep h1
  have hp := chain_parts (x := x) hsep ys [] _ f h0 (by rw [hx]; rfl) hf hc hn
  unfold Txt.split
  have k1 := kind_pos x
  by_cases hl : x.length < sep.length
  · rw [decide_eq_true hl, Bool.true_or, if_pos rfl]
    match ys, h0 with
    | [y], _ => rw [← hx, Str.join.eq_2]
    | y :: z :: r, _ =>
      rw [join_two] at hx
      rw [← hx, cs_len, cs_app, cs_app, cs_len sep] at hl
      simp only [List.length_append] at hl
      omega
  · rw [decide_eq_false hl, decide_eq_false (by omega : ¬ Builtin.Str.strKind x < Builtin.Str.strKind sep), Bool.false_or, if_neg (by simp)]
    split
    · rename_i he
      have e := List.isEmpty_iff.mp he
      rw [e] at hp
      rw [partsFrom.eq_1] at hp
      rw [← hp]
      show [x] = [Builtin.Str.strSub x 0 x.length]
      rw [sub_all]
    · rw [partsBetween_eq]
      exact hp
theorem partition_at {x a sep c : Str} (hx : cs x = cs a ++ cs sep ++ cs c) (hn : ∀ k, k < (cs a).length → ¬ At x sep x.length k) : Txt.partition x sep = (a, sep, c) := by
  have hat : At x sep x.length (cs a).length := at_of hx
  unfold Txt.partition
  rcases occ_head x sep 1 (Nat.le_refl _) with ⟨e, no⟩ | ⟨i, r, e, h1, h2⟩
  · exact absurd hat (no _)
  · rw [e]
    have ei : i = (cs a).length := by
      rcases Nat.lt_trichotomy i (cs a).length with q | q | q
      · exact absurd h1 (hn i q)
      · exact q
      · exact absurd hat (h2 _ q)
    subst ei
    have e1 := sub_mid (x := x) (pre := []) (mid := cs a) (post := cs sep ++ cs c) (by rw [hx]; simp) rfl
    have e2 := sub_mid (x := x) (pre := cs a ++ cs sep) (mid := cs c) (post := []) (by rw [hx]; simp) rfl
    simp only [List.length_nil, Nat.zero_add] at e1
    have el : x.length = (cs a ++ cs sep).length + (cs c).length := by rw [cs_len x, hx]; simp only [List.length_append]
    show (Builtin.Str.strSub x 0 (cs a).length, sep, Builtin.Str.strSub x ((cs a).length + sep.length) x.length) = _
    rw [e1, el, cs_len sep, ← List.length_append, e2]
theorem partition_no {x sep : Str} (hn : ∀ k, ¬ At x sep x.length k) : Txt.partition x sep = (x, Str.empty, Str.empty) := by
  unfold Txt.partition
  rcases occ_head x sep 1 (Nat.le_refl _) with ⟨e, no⟩ | ⟨i, r, e, h1, h2⟩
  · rw [e]
  · exact absurd h1 (hn i)
end TS

set_option maxHeartbeats 4000000
/-! the texts of row sets -/
namespace TS
open PySem PySem.StrLaws
def numS (n : Nat) : Str := Str.ofString (toString ((n : Nat) : Int))
/-- neither a blank nor a semicolon -/
def okw (w : Str) : Bool := (cs w).all fun c => c != 32 && c != 59
theorem num48 : ∀ n : Fin 48, (okw (numS n) && decide ((numS n).length ≤ 2) && Txt.isascii (numS n) && Txt.isdigit (numS n) && decide (intText? (numS n) = some ((n : Nat) : Int)) && decide (numS n ≠ "-")) = true := by decide +kernel
theorem num_ok {n : Nat} (h : n < 48) : okw (numS n) = true ∧ (numS n).length ≤ 2 ∧ Txt.isascii (numS n) = true ∧ Txt.isdigit (numS n) = true ∧ intText? (numS n) = some (n : Int) ∧ numS n ≠ "-" := by
  have q := num48 ⟨n, h⟩
  simp only [Bool.and_eq_true, decide_eq_true_eq] at q
  exact ⟨q.1.1.1.1.1, q.1.1.1.1.2, q.1.1.1.2, q.1.1.2, q.1.2, q.2⟩
theorem dash_ok : okw "-" = true ∧ (("-" : Str)).length ≤ 2 ∧ Txt.isdigit "-" = false := by decide +kernel
theorem digit_ascii : ∀ c : Fin 128, Unicode.isDigit (c : Nat) = (decide (48 ≤ (c : Nat)) && decide ((c : Nat) ≤ 57)) := by decide +kernel
theorem one_digit : ∀ a : Fin 10, intText? ⟨#[48 + (a : Nat)]⟩ = some ((a : Nat) : Int) := by decide +kernel
theorem two_digits : ∀ a b : Fin 10, intText? ⟨#[48 + (a : Nat), 48 + (b : Nat)]⟩ = some ((10 * (a : Nat) + (b : Nat) : Nat) : Int) := by decide +kernel
theorem fig {c : Nat} (h1 : c < 128) (h2 : Unicode.isDigit c = true) : ∃ a : Fin 10, c = 48 + (a : Nat) := by
  have q := digit_ascii ⟨c, h1⟩
  rw [h2] at q
  have q := q.symm
  simp only [Bool.and_eq_true, decide_eq_true_eq] at q
  exact ⟨⟨c - 48, by omega⟩, by show c = 48 + (c - 48); omega⟩
theorem read_any {w : Str} (h : w.length ≤ 2) (ha : Txt.isascii w = true) (hd : Txt.isdigit w = true) : ∃ n : Nat, n < 100 ∧ intText? w = some (n : Int) := by
  obtain ⟨a⟩ := w
  obtain ⟨l⟩ := a
  unfold Txt.isascii at ha
  unfold Txt.isdigit at hd
  have hl : l.length ≤ 2 := h
  match l, hl with
  | [], _ => simp [Str.length] at hd
  | [c], _ =>
    simp at ha hd
    obtain ⟨x, rfl⟩ := fig ha hd.2
    exact ⟨x, by omega, one_digit x⟩
  | [c, d], _ =>
    simp at ha hd
    obtain ⟨x, rfl⟩ := fig ha.1 hd.2.1
    obtain ⟨y, rfl⟩ := fig ha.2 hd.2.2
    exact ⟨10 * (x : Nat) + (y : Nat), by omega, two_digits x y⟩
/-- what read_state gives -/
def rdW (w : Str) : Option Nat := if w.length ≤ 2 ∧ Txt.isascii w = true ∧ Txt.isdigit w = true then (intText? w).map Int.toNat else none
theorem rdW_some {w : Str} (h1 : w.length ≤ 2) (h2 : Txt.isascii w = true) (h3 : Txt.isdigit w = true) : ∃ n : Nat, rdW w = some n ∧ intText? w = some (n : Int) := by
  obtain ⟨n, _, e⟩ := read_any h1 h2 h3
  exact ⟨n, by unfold rdW; rw [if_pos ⟨h1, h2, h3⟩, e]; rfl, e⟩
theorem rdW_none {w : Str} (h : ¬ (w.length ≤ 2 ∧ Txt.isascii w = true ∧ Txt.isdigit w = true)) : rdW w = none := if_neg h
abbrev Ln := Option Nat × Option Nat
def EOk (n : Nat) (o : Option Nat) : Prop := ∀ a, o = some a → a < n
def LOk (n : Nat) (l : Ln) : Prop := EOk n l.1 ∧ EOk n l.2
structure GoodL (ls : List Ln) : Prop where
  one : 1 ≤ ls.length
  most : ls.length ≤ 48
  ok : ∀ l ∈ ls, LOk ls.length l
theorem EOk.mono {n m : Nat} {o : Option Nat} (h : EOk n o) (l : n ≤ m) : EOk m o := fun a e => Nat.lt_of_lt_of_le (h a e) l
theorem LOk.mono {n m : Nat} {o : Ln} (h : LOk n o) (l : n ≤ m) : LOk m o := ⟨h.1.mono l, h.2.mono l⟩
theorem GoodL.all48 {ls : List Ln} (g : GoodL ls) : ∀ l ∈ ls, LOk 48 l := fun l h => (g.ok l h).mono g.most
theorem GoodL.ne {ls : List Ln} (g : GoodL ls) : ls ≠ [] := by
  rintro rfl
  exact absurd g.one (by decide)
def wS : Option Nat → Str
  | none => "-"
  | some n => numS n
theorem wS_ok {e : Option Nat} (h : EOk 48 e) : okw (wS e) = true ∧ (wS e).length ≤ 2 := by
  cases e with
  | none => exact ⟨dash_ok.1, dash_ok.2.1⟩
  | some n => exact ⟨(num_ok (h n rfl)).1, (num_ok (h n rfl)).2.1⟩
theorem rdW_wS {e : Option Nat} (h : EOk 48 e) : rdW (wS e) = e := by
  cases e with
  | none =>
    refine rdW_none fun z => ?_
    have q := z.2.2
    rw [show wS none = "-" from rfl, dash_ok.2.2] at q
    cases q
  | some n =>
    obtain ⟨_, h1, h2, h3, h4, _⟩ := num_ok (h n rfl)
    obtain ⟨m, e1, e2⟩ := rdW_some h1 h2 h3
    rw [h4] at e2
    have : n = m := by injection e2 with e2; omega
    rw [show wS (some n) = numS n from rfl, e1, this]
theorem wS_inj {e f : Option Nat} (h : EOk 48 e) (h' : EOk 48 f) (q : wS e = wS f) : e = f := by
  rw [← rdW_wS h, q, rdW_wS h']
def rowS (l : Ln) : Str := Str.join " " [wS l.1, wS l.2]
def txt (ls : List Ln) : Str := Str.join "; " (ls.map rowS)
theorem cs_sp : cs " " = [32] := by decide +kernel
theorem cs_semi : cs "; " = [59, 32] := by decide +kernel
theorem okw_no {w : Str} (h : okw w = true) {c : Nat} (hc : c = 32 ∨ c = 59) : c ∉ cs w := fun z => by
  have := List.all_eq_true.mp h c z
  rcases hc with rfl | rfl <;> cases this
theorem mem_join {sep : Str} {c : Nat} : ∀ {ys : List Str}, c ∈ cs (sep.join ys) → c ∈ cs sep ∨ ∃ y ∈ ys, c ∈ cs y
  | [], h => by
    rw [Str.join.eq_1] at h
    have : cs Str.empty = [] := rfl
    rw [this] at h
    cases h
  | [y], h => by
    rw [Str.join.eq_2] at h
    exact .inr ⟨y, by simp, h⟩
  | y :: z :: r, h => by
    rw [join_two, cs_app, cs_app] at h
    rcases List.mem_append.mp h with h | h
    · rcases List.mem_append.mp h with h | h
      · exact .inr ⟨y, by simp, h⟩
      · exact .inl h
    · rcases mem_join h with h | ⟨y', hy, h⟩
      · exact .inl h
      · exact .inr ⟨y', List.mem_cons_of_mem _ hy, h⟩
theorem join_eq (sep : Str) (ys : List Str) : Txt.join sep ys = sep.join ys := glued_eq_join sep ys
theorem split_row {l : Ln} (h : LOk 48 l) : Txt.split (rowS l) " " = [wS l.1, wS l.2] := by
  unfold rowS
  rw [← join_eq]
  refine split_join (c0 := 32) (t := []) cs_sp (by decide +kernel) (by simp) fun w hw => ?_
  simp only [List.mem_cons, List.not_mem_nil, or_false] at hw
  rcases hw with rfl | rfl
  · exact okw_no (wS_ok h.1).1 (.inl rfl)
  · exact okw_no (wS_ok h.2).1 (.inl rfl)
theorem semi_row {l : Ln} (h : LOk 48 l) : 59 ∉ cs (rowS l) := fun z => by
  unfold rowS at z
  rcases mem_join z with z | ⟨w, hw, z⟩
  · rw [cs_sp] at z
    simp at z
  · simp only [List.mem_cons, List.not_mem_nil, or_false] at hw
    rcases hw with rfl | rfl
    · exact okw_no (wS_ok h.1).1 (.inr rfl) z
    · exact okw_no (wS_ok h.2).1 (.inr rfl) z
theorem split_txt {ls : List Ln} (h0 : ls ≠ []) (h : ∀ l ∈ ls, LOk 48 l) : Txt.split (txt ls) "; " = ls.map rowS := by
  unfold txt
  rw [← join_eq]
  refine split_join (c0 := 59) (t := [32]) cs_semi (by decide +kernel) (by simpa using h0) fun y hy => ?_
  obtain ⟨l, hl, rfl⟩ := List.mem_map.mp hy
  exact semi_row (h l hl)
theorem row_back {p : Str} {a b : Option Nat} (h : Txt.split p " " = [wS a, wS b]) : p = rowS (a, b) := by
  rw [← StrLaws.join_split p " ", h]
  rfl
theorem txt_back {t : Str} {ls : List Ln} (h : Txt.split t "; " = ls.map rowS) : t = txt ls := by
  rw [← StrLaws.join_split t "; ", h]
  rfl
theorem rowS_inj {l l' : Ln} (h : LOk 48 l) (h' : LOk 48 l') (q : rowS l = rowS l') : l = l' := by
  have e := split_row h
  rw [q, split_row h'] at e
  simp only [List.cons.injEq, and_true] at e
  exact Prod.ext (wS_inj h.1 h'.1 e.1.symm) (wS_inj h.2 h'.2 e.2.symm)
theorem map_inj_on {α β : Type} {f : α → β} : ∀ {xs ys : List α}, (∀ x ∈ xs, ∀ y ∈ ys, f x = f y → x = y) → xs.map f = ys.map f → xs = ys
  | [], [], _, _ => rfl
  | [], _ :: _, _, e => by simp at e
  | _ :: _, [], _, e => by simp at e
  | x :: xs, y :: ys, h, e => by
    simp only [List.map_cons, List.cons.injEq] at e
    rw [h x (by simp) y (by simp) e.1, map_inj_on (fun a ha b hb => h a (List.mem_cons_of_mem _ ha) b (List.mem_cons_of_mem _ hb)) e.2]
theorem txt_inj {ls ls' : List Ln} (h0 : ls ≠ []) (h : ∀ l ∈ ls, LOk 48 l) (h0' : ls' ≠ []) (h' : ∀ l ∈ ls', LOk 48 l) (q : txt ls = txt ls') : ls = ls' := by
  have e := split_txt h0 h
  rw [q, split_txt h0' h'] at e
  exact (map_inj_on (fun x hx y hy => rowS_inj (h' x hx) (h y hy)) e).symm
theorem join_len (sep : Str) : ∀ ys : List Str, (Str.join sep ys).length + sep.length ≥ ys.length * sep.length ∧ (ys ≠ [] → (Str.join sep ys).length + sep.length = (ys.map (·.length)).sum + ys.length * sep.length)
  | [] => ⟨by simp, fun h => absurd rfl h⟩
  | [y] => by
    rw [Str.join.eq_2]
    simp
  | y :: z :: r => by
    obtain ⟨h1, h2⟩ := join_len sep (z :: r)
    have h2 := h2 (by simp)
    have e : (Str.join sep (y :: z :: r)).length = y.length + sep.length + (Str.join sep (z :: r)).length := by
      rw [join_two, Str.length_append, Str.length_append]
    have m1 : (y :: z :: r).length * sep.length = (z :: r).length * sep.length + sep.length := by
      rw [List.length_cons, Nat.succ_mul]
    rw [e, m1]
    refine ⟨by omega, fun _ => ?_⟩
    simp only [List.map_cons, List.sum_cons] at h2 ⊢
    omega
theorem split_len (x y : Str) (h : 1 ≤ y.length) : (Txt.split x y).length ≤ x.length + 1 := by
  have q := (join_len y (Txt.split x y)).1
  rw [StrLaws.join_split] at q
  have : (Txt.split x y).length * y.length ≤ x.length + y.length := q
  generalize hk : (Txt.split x y).length = k at this ⊢
  rcases Nat.lt_or_ge x.length k with z | z
  · have h3 : (x.length + 1) * y.length ≤ k * y.length := Nat.mul_le_mul_right _ z
    rw [Nat.succ_mul] at h3
    by_cases hz : k ≤ x.length + 1
    · exact hz
    · have h4 : (x.length + 2) * y.length ≤ k * y.length := Nat.mul_le_mul_right _ (by omega)
      have h5 : x.length ≤ x.length * y.length := Nat.le_mul_of_pos_right _ h
      rw [show (x.length + 2) * y.length = x.length * y.length + 2 * y.length from by rw [Nat.add_mul]] at h4
      omega
  · omega
theorem le_sum : ∀ {xs : List Nat} {a : Nat}, a ∈ xs → a ≤ xs.sum
  | [], _, h => by cases h
  | x :: xs, a, h => by
    rw [List.sum_cons]
    rcases List.mem_cons.mp h with rfl | h
    · exact Nat.le_add_right _ _
    · exact Nat.le_trans (le_sum h) (Nat.le_add_left _ _)
theorem part_len {x y p : Str} (h : p ∈ Txt.split x y) : p.length ≤ x.length := by
  have hne : Txt.split x y ≠ [] := fun z => by rw [z] at h; cases h
  have q := (join_len y (Txt.split x y)).2 hne
  rw [StrLaws.join_split] at q
  have h1 : 1 ≤ (Txt.split x y).length := by
    cases hh : Txt.split x y with
    | nil => exact absurd hh hne
    | cons _ _ => simp
  have h2 : y.length ≤ (Txt.split x y).length * y.length := Nat.le_mul_of_pos_left _ h1
  have h3 : p.length ≤ ((Txt.split x y).map (·.length)).sum := le_sum (List.mem_map.mpr ⟨p, h, rfl⟩)
  omega
theorem rowS_len {l : Ln} (h : LOk 48 l) : (rowS l).length ≤ 5 := by
  have q := (join_len " " [wS l.1, wS l.2]).2 (by simp)
  have h1 := (wS_ok h.1).2
  have h2 := (wS_ok h.2).2
  have e : (" " : Str).length = 1 := by decide +kernel
  rw [e] at q
  simp only [List.map_cons, List.map_nil, List.sum_cons, List.sum_nil, List.length_cons, List.length_nil] at q
  show (Str.join " " [wS l.1, wS l.2]).length ≤ 5
  omega
theorem sum_le {α : Type} {f : α → Nat} {k : Nat} : ∀ {xs : List α}, (∀ x ∈ xs, f x ≤ k) → (xs.map f).sum ≤ k * xs.length
  | [], _ => by simp
  | x :: xs, h => by
    have ih := sum_le (xs := xs) fun y hy => h y (List.mem_cons_of_mem _ hy)
    have := h x (by simp)
    simp only [List.map_cons, List.sum_cons, List.length_cons]
    rw [Nat.mul_succ]
    omega
theorem rows_sum {ls : List Ln} (h : ∀ l ∈ ls, LOk 48 l) : ((ls.map rowS).map (·.length)).sum ≤ 5 * ls.length := by
  rw [List.map_map]
  exact sum_le fun l hl => rowS_len (h l hl)
theorem txt_len {ls : List Ln} (h : ∀ l ∈ ls, LOk 48 l) (h0 : ls ≠ []) : (txt ls).length ≤ 7 * ls.length := by
  have q := (join_len "; " (ls.map rowS)).2 (by simpa using h0)
  have e : ("; " : Str).length = 2 := by decide +kernel
  rw [e, List.length_map] at q
  have := rows_sum h
  show (Str.join "; " (ls.map rowS)).length ≤ _
  omega
end TS

set_option maxHeartbeats 4000000
/-! the texts of rules -/
namespace TR
open PySem PySem.StrLaws TS
abbrev Lr := Nat × Bool × Nat × Bool
def fallS (b : Bool) : Str := if b = true then "fall" else "stay"
def goS (b : Bool) : Str := if b = true then "go" else "stay"
/-- neither a blank nor a semicolon nor a bar -/
def okz (w : Str) : Bool := (cs w).all fun c => c != 32 && c != 59 && c != 124
theorem num48z : ∀ n : Fin 48, okz (numS n) = true := by decide +kernel
theorem num_z {n : Nat} (h : n < 48) : okz (numS n) = true := num48z ⟨n, h⟩
theorem fall_ok (b : Bool) : okz (fallS b) = true ∧ (fallS b).length ≤ 4 := by cases b <;> decide +kernel
theorem go_ok (b : Bool) : okz (goS b) = true ∧ (goS b).length ≤ 4 := by cases b <;> decide +kernel
theorem fall_inj {a b : Bool} (h : fallS a = fallS b) : a = b := by
  revert h
  cases a <;> cases b <;> decide +kernel
theorem go_inj {a b : Bool} (h : goS a = goS b) : a = b := by
  revert h
  cases a <;> cases b <;> decide +kernel
theorem okz_no {w : Str} (h : okz w = true) {c : Nat} (hc : c = 32 ∨ c = 59 ∨ c = 124) : c ∉ cs w := fun z => by
  have := List.all_eq_true.mp h c z
  rcases hc with rfl | rfl | rfl <;> cases this
def LOk (n : Nat) (l : Lr) : Prop := l.1 < n ∧ l.2.2.1 < n
def isRtN (k : Nat) : Bool := decide (k = 1) || decide (k = 4) || decide (k = 9) || decide (k = 16)
structure GoodR (ls : List Lr) (ss : List Nat) : Prop where
  one : 1 ≤ ls.length
  most : ls.length ≤ 48
  ok : ∀ l ∈ ls, LOk ls.length l
  rt : isRtN ss.length = true
  st : ∀ s ∈ ss, s < ls.length
theorem rt_le {k : Nat} (h : isRtN k = true) : 1 ≤ k ∧ k ≤ 16 := by
  unfold isRtN at h
  simp only [Bool.or_eq_true, decide_eq_true_eq] at h
  omega
section
variable {ls ls' : List Lr} {ss ss' : List Nat}
theorem GoodR.all48 (g : GoodR ls ss) : ∀ l ∈ ls, LOk 48 l := fun l h => ⟨Nat.lt_of_lt_of_le (g.ok l h).1 g.most, Nat.lt_of_lt_of_le (g.ok l h).2 g.most⟩
theorem GoodR.st48 (g : GoodR ls ss) : ∀ s ∈ ss, s < 48 := fun s h => Nat.lt_of_lt_of_le (g.st s h) g.most
theorem GoodR.ne (g : GoodR ls ss) : ls ≠ [] := by
  rintro rfl
  exact absurd g.one (by decide)
theorem GoodR.sne (g : GoodR ls ss) : ss ≠ [] := by
  rintro rfl
  exact absurd g.rt (by decide)
end
theorem rd_num {n : Nat} (h : n < 48) : rdW (numS n) = some n := rdW_wS (e := some n) (fun a e => by cases e; exact h)
theorem num_inj {n m : Nat} (h : n < 48) (h' : m < 48) (e : numS n = numS m) : n = m := by
  have q := rd_num h
  rw [e, rd_num h'] at q
  injection q with q
  exact q.symm
def rowS (l : Lr) : Str := Str.join " " [numS l.1, fallS l.2.1, numS l.2.2.1, goS l.2.2.2]
def rtx (ls : List Lr) : Str := Str.join "; " (ls.map rowS)
def stx (ss : List Nat) : Str := Str.join " " (ss.map numS)
def txt (ls : List Lr) (ss : List Nat) : Str := if ss = [0] then rtx ls else rtx ls ++ " | " ++ stx ss
theorem words_ok {l : Lr} (h : LOk 48 l) : ∀ w ∈ [numS l.1, fallS l.2.1, numS l.2.2.1, goS l.2.2.2], okz w = true := fun w hw => by
  simp only [List.mem_cons, List.not_mem_nil, or_false] at hw
  rcases hw with rfl | rfl | rfl | rfl
  · exact num_z h.1
  · exact (fall_ok _).1
  · exact num_z h.2
  · exact (go_ok _).1
theorem split_row {l : Lr} (h : LOk 48 l) : Txt.split (rowS l) " " = [numS l.1, fallS l.2.1, numS l.2.2.1, goS l.2.2.2] := by
  unfold rowS
  rw [← join_eq]
  exact split_join (c0 := 32) (t := []) cs_sp (by decide +kernel) (by simp) fun w hw => okz_no (words_ok h w hw) (.inl rfl)
theorem mem_row {l : Lr} (h : LOk 48 l) {c : Nat} (hc : c = 59 ∨ c = 124) : c ∉ cs (rowS l) := fun z => by
  unfold rowS at z
  rcases mem_join z with z | ⟨w, hw, z⟩
  · rw [cs_sp] at z
    simp only [List.mem_singleton] at z
    omega
  · exact okz_no (words_ok h w hw) (.inr hc) z
theorem split_rtx {ls : List Lr} (h0 : ls ≠ []) (h : ∀ l ∈ ls, LOk 48 l) : Txt.split (rtx ls) "; " = ls.map rowS := by
  unfold rtx
  rw [← join_eq]
  refine split_join (c0 := 59) (t := [32]) cs_semi (by decide +kernel) (by simpa using h0) fun y hy => ?_
  obtain ⟨l, hl, rfl⟩ := List.mem_map.mp hy
  exact mem_row (h l hl) (.inl rfl)
theorem split_stx {ss : List Nat} (h0 : ss ≠ []) (h : ∀ s ∈ ss, s < 48) : Txt.split (stx ss) " " = ss.map numS := by
  unfold stx
  rw [← join_eq]
  refine split_join (c0 := 32) (t := []) cs_sp (by decide +kernel) (by simpa using h0) fun y hy => ?_
  obtain ⟨s, hs, rfl⟩ := List.mem_map.mp hy
  exact okz_no (num_z (h s hs)) (.inl rfl)
theorem bar_rtx {ls : List Lr} (h : ∀ l ∈ ls, LOk 48 l) : 124 ∉ cs (rtx ls) := fun z => by
  unfold rtx at z
  rcases mem_join z with z | ⟨w, hw, z⟩
  · rw [cs_semi] at z
    simp at z
  · obtain ⟨l, hl, rfl⟩ := List.mem_map.mp hw
    exact mem_row (h l hl) (.inr rfl) z
theorem bar_stx {ss : List Nat} (h : ∀ s ∈ ss, s < 48) : 124 ∉ cs (stx ss) := fun z => by
  unfold stx at z
  rcases mem_join z with z | ⟨w, hw, z⟩
  · rw [cs_sp] at z
    simp at z
  · obtain ⟨s, hs, rfl⟩ := List.mem_map.mp hw
    exact okz_no (num_z (h s hs)) (.inr (.inr rfl)) z
theorem cs_bar : cs " | " = [32, 124, 32] := by decide +kernel
theorem bar_at {x : Str} {k : Nat} (h : At x " | " x.length k) : (cs x)[k + 1]? = some 124 := by
  have := at_get h (j := 1) (by rw [cs_bar]; decide)
  rw [this, cs_bar]
  rfl
theorem no_bar {x : Str} (h : 124 ∉ cs x) : ∀ k, ¬ At x " | " x.length k := fun k hk => h (List.mem_of_getElem? (bar_at hk))
theorem one_bar {x a c : Str} (hx : cs x = cs a ++ cs " | " ++ cs c) (ha : 124 ∉ cs a) (hc : 124 ∉ cs c) : At x " | " x.length (cs a).length ∧ ∀ k, At x " | " x.length k → k = (cs a).length := by
  refine ⟨at_of hx, fun k hk => ?_⟩
  have q := bar_at hk
  rw [hx, cs_bar, List.append_assoc] at q
  rcases Nat.lt_or_ge (k + 1) (cs a).length with z | z
  · rw [List.getElem?_append_left z] at q
    exact absurd (List.mem_of_getElem? q) ha
  · rw [List.getElem?_append_right z] at q
    rcases h : k + 1 - (cs a).length with _ | _ | _ | m
    · rw [h] at q; cases q
    · omega
    · rw [h] at q; cases q
    · rw [h] at q
      have q : (cs c)[m]? = some 124 := by simpa using q
      exact absurd (List.mem_of_getElem? q) hc
theorem split_of {x sep : Str} {ys : List Str} (h1 : 1 ≤ sep.length) (hk : Builtin.Str.strKind sep = 1) (h : partsFrom x sep.length 0 (Builtin.Str.occurrences x sep 0 x.length (x.length + 1)) = ys) : Txt.split x sep = ys := by
  obtain ⟨f, hc, hn⟩ := occ_tight x sep h1
  unfold Txt.split
  have k1 := kind_pos x
  by_cases hl : x.length < sep.length
  · rw [decide_eq_true hl, Bool.true_or, if_pos rfl]
    rw [← h]
    cases e : Builtin.Str.occurrences x sep 0 x.length (x.length + 1) with
    | nil =>
      rw [partsFrom.eq_1, sub_all]
    | cons c r =>
      rw [e, ChainG.eq_2] at hc
      have := hc.2.1.1
      omega
  · rw [decide_eq_false hl, decide_eq_false (by omega : ¬ Builtin.Str.strKind x < Builtin.Str.strKind sep), Bool.false_or, if_neg (by simp)]
    split
    · rename_i he
      have e := List.isEmpty_iff.mp he
      rw [e, partsFrom.eq_1] at h
      rw [← h, sub_all]
    · rw [partsBetween_eq]
      exact h
theorem split_bar1 {x : Str} (h : 124 ∉ cs x) : Txt.split x " | " = [x] := by
  obtain ⟨f, hc, hn⟩ := occ_tight x " | " (by decide +kernel)
  refine split_of (by decide +kernel) (by decide +kernel) ?_
  cases e : Builtin.Str.occurrences x " | " 0 x.length (x.length + 1) with
  | nil => rw [partsFrom.eq_1, sub_all]
  | cons c r =>
    rw [e, ChainG.eq_2] at hc
    exact absurd hc.2.1 (no_bar h c)
theorem split_bar2 {x a c : Str} (hx : cs x = cs a ++ cs " | " ++ cs c) (ha : 124 ∉ cs a) (hc' : 124 ∉ cs c) : Txt.split x " | " = [a, c] := by
  obtain ⟨f, hc, hn⟩ := occ_tight x " | " (by decide +kernel)
  obtain ⟨hat, huni⟩ := one_bar hx ha hc'
  have hb : (" | " : Str).length = 3 := by decide +kernel
  refine split_of (by decide +kernel) (by decide +kernel) ?_
  have e1 := sub_mid (x := x) (pre := []) (mid := cs a) (post := cs " | " ++ cs c) (by rw [hx]; simp) rfl
  have e2 := sub_mid (x := x) (pre := cs a ++ cs " | ") (mid := cs c) (post := []) (by rw [hx]; simp) rfl
  simp only [List.length_nil, Nat.zero_add] at e1
  have el : x.length = (cs a ++ cs " | ").length + (cs c).length := by rw [cs_len x, hx]; simp only [List.length_append]
  cases e : Builtin.Str.occurrences x " | " 0 x.length (x.length + 1) with
  | nil =>
    rw [e, ChainG.eq_1] at hc
    exact absurd hat (hn _ (by omega))
  | cons k r =>
    rw [e, ChainG.eq_2] at hc
    obtain ⟨_, h2, _, h4⟩ := hc
    have ek := huni k h2
    subst ek
    cases r with
    | nil =>
      rw [partsFrom.eq_2, partsFrom.eq_1, e1]
      have hp : (cs a).length + (" | " : Str).length = (cs a ++ cs " | ").length := by rw [cs_len " | "]; simp only [List.length_append]
      rw [hp]
      rw [← el] at e2
      rw [e2]
    | cons k2 r2 =>
      rw [ChainG.eq_2] at h4
      have := huni k2 h4.2.1
      have := h4.1
      omega
section
variable {ls ls' : List Lr} {ss ss' : List Nat}
theorem cs_txt (h0 : ss ≠ [0]) : cs (txt ls ss) = cs (rtx ls) ++ cs " | " ++ cs (stx ss) := by
  unfold txt
  rw [if_neg h0, cs_app, cs_app]
theorem txt_plain : txt ls [0] = rtx ls := if_pos rfl
theorem part_plain (g : GoodR ls [0]) : Txt.partition (txt ls [0]) " | " = (rtx ls, Str.empty, Str.empty) := by
  rw [txt_plain]
  exact partition_no (no_bar (bar_rtx g.all48))
theorem part_bar (g : GoodR ls ss) (h0 : ss ≠ [0]) : Txt.partition (txt ls ss) " | " = (rtx ls, (" | " : Str), stx ss) := by
  obtain ⟨_, huni⟩ := one_bar (cs_txt (ls := ls) h0) (bar_rtx g.all48) (bar_stx g.st48)
  exact partition_at (cs_txt h0) fun k hk hat => by
    have := huni k hat
    omega
theorem parts_plain (g : GoodR ls [0]) : Txt.split (txt ls [0]) " | " = [rtx ls] := by
  rw [txt_plain]
  exact split_bar1 (bar_rtx g.all48)
theorem parts_bar (g : GoodR ls ss) (h0 : ss ≠ [0]) : Txt.split (txt ls ss) " | " = [rtx ls, stx ss] := split_bar2 (cs_txt h0) (bar_rtx g.all48) (bar_stx g.st48)
theorem rowS_inj {l l' : Lr} (h : LOk 48 l) (h' : LOk 48 l') (q : rowS l = rowS l') : l = l' := by
  have e := split_row h
  rw [q, split_row h'] at e
  simp only [List.cons.injEq, and_true] at e
  exact Prod.ext (num_inj h.1 h'.1 e.1.symm) (Prod.ext (fall_inj e.2.1.symm) (Prod.ext (num_inj h.2 h'.2 e.2.2.1.symm) (go_inj e.2.2.2.symm)))
theorem rtx_inj (h0 : ls ≠ []) (h : ∀ l ∈ ls, LOk 48 l) (h0' : ls' ≠ []) (h' : ∀ l ∈ ls', LOk 48 l) (q : rtx ls = rtx ls') : ls = ls' := by
  have e := split_rtx h0 h
  rw [q, split_rtx h0' h'] at e
  exact (map_inj_on (fun x hx y hy => rowS_inj (h' x hx) (h y hy)) e).symm
theorem stx_inj (h0 : ss ≠ []) (h : ∀ s ∈ ss, s < 48) (h0' : ss' ≠ []) (h' : ∀ s ∈ ss', s < 48) (q : stx ss = stx ss') : ss = ss' := by
  have e := split_stx h0 h
  rw [q, split_stx h0' h'] at e
  exact (map_inj_on (fun x hx y hy => num_inj (h' x hx) (h y hy)) e).symm
theorem txt_inj (g : GoodR ls ss) (g' : GoodR ls' ss') (q : txt ls ss = txt ls' ss') : ls = ls' ∧ ss = ss' := by
  by_cases h : ss = [0]
  · subst h
    have e := parts_plain g
    rw [q] at e
    by_cases h' : ss' = [0]
    · subst h'
      rw [parts_plain g'] at e
      injection e with e
      exact ⟨(rtx_inj g'.ne g'.all48 g.ne g.all48 e).symm, rfl⟩
    · rw [parts_bar g' h'] at e
      simp at e
  · have e := parts_bar g h
    rw [q] at e
    by_cases h' : ss' = [0]
    · subst h'
      rw [parts_plain g'] at e
      simp at e
    · rw [parts_bar g' h'] at e
      simp only [List.cons.injEq, and_true] at e
      exact ⟨(rtx_inj g'.ne g'.all48 g.ne g.all48 e.1).symm, (stx_inj g'.sne g'.st48 g.sne g.st48 e.2).symm⟩
theorem row_back {p : Str} {l : Lr} (h : Txt.split p " " = [numS l.1, fallS l.2.1, numS l.2.2.1, goS l.2.2.2]) : p = rowS l := by
  rw [← StrLaws.join_split p " ", h]
  rfl
theorem rtx_back {t : Str} (h : Txt.split t "; " = ls.map rowS) : t = rtx ls := by
  rw [← StrLaws.join_split t "; ", h]
  rfl
theorem stx_back {t : Str} (h : Txt.split t " " = ss.map numS) : t = stx ss := by
  rw [← StrLaws.join_split t " ", h]
  rfl
theorem txt_back1 {t : Str} (h : Txt.split t " | " = [rtx ls]) : t = txt ls [0] := by
  rw [← StrLaws.join_split t " | ", h, txt_plain, Str.join.eq_2]
theorem txt_back2 {t : Str} (h0 : ss ≠ [0]) (h : Txt.split t " | " = [rtx ls, stx ss]) : t = txt ls ss := by
  rw [← StrLaws.join_split t " | ", h]
  unfold txt
  rw [if_neg h0, join_two, Str.join.eq_2]
theorem rowS_len {l : Lr} (h : LOk 48 l) : (rowS l).length ≤ 15 := by
  have q := (join_len " " [numS l.1, fallS l.2.1, numS l.2.2.1, goS l.2.2.2]).2 (by simp)
  have h1 := (num_ok h.1).2.1
  have h2 := (num_ok h.2).2.1
  have h3 := (fall_ok l.2.1).2
  have h4 := (go_ok l.2.2.2).2
  have e : (" " : Str).length = 1 := by decide +kernel
  rw [e] at q
  simp only [List.map_cons, List.map_nil, List.sum_cons, List.sum_nil, List.length_cons, List.length_nil] at q
  show (Str.join " " [numS l.1, fallS l.2.1, numS l.2.2.1, goS l.2.2.2]).length ≤ 15
  omega
theorem rows_sum (h : ∀ l ∈ ls, LOk 48 l) : ((ls.map rowS).map (·.length)).sum ≤ 15 * ls.length := by
  rw [List.map_map]
  exact sum_le fun l hl => rowS_len (h l hl)
theorem rtx_len (h : ∀ l ∈ ls, LOk 48 l) : (rtx ls).length ≤ 17 * ls.length := by
  by_cases h0 : ls = []
  · subst h0
    decide
  have q := (join_len "; " (ls.map rowS)).2 (by simpa using h0)
  have e : ("; " : Str).length = 2 := by decide +kernel
  rw [e, List.length_map] at q
  have := rows_sum h
  show (Str.join "; " (ls.map rowS)).length ≤ _
  omega
theorem nums_sum (h : ∀ s ∈ ss, s < 48) : ((ss.map numS).map (·.length)).sum ≤ 2 * ss.length := by
  rw [List.map_map]
  exact sum_le fun s hs => (num_ok (h s hs)).2.1
theorem stx_len (h : ∀ s ∈ ss, s < 48) : (stx ss).length ≤ 3 * ss.length := by
  by_cases h0 : ss = []
  · subst h0
    decide
  have q := (join_len " " (ss.map numS)).2 (by simpa using h0)
  have e : (" " : Str).length = 1 := by decide +kernel
  rw [e, List.length_map] at q
  have := nums_sum h
  show (Str.join " " (ss.map numS)).length ≤ _
  omega
theorem txt_len (g : GoodR ls ss) : (txt ls ss).length ≤ 870 := by
  have h1 := rtx_len g.all48
  have h2 := stx_len g.st48
  have h3 := g.most
  have h4 := (rt_le g.rt).2
  have e : (" | " : Str).length = 3 := by decide +kernel
  unfold txt
  split
  · omega
  · rw [Str.length_append, Str.length_append]
    omega
end
/-- the parts of a text at a bar are not longer -/
theorem part_len (t sep : Str) : (Txt.partition t sep).1.length ≤ t.length ∧ ((Txt.partition t sep).2.1 = sep ∨ (Txt.partition t sep).2.1 = Str.empty) ∧ (Txt.partition t sep).2.2.length ≤ t.length := by
  have sub : ∀ i j, (Builtin.Str.strSub t i j).length ≤ t.length := fun i j => by
    rw [cs_len, cs_len]
    show (Builtin.Str.strSub t i j).cps.toList.length ≤ t.cps.toList.length
    rw [strSub_toList, List.length_take, List.length_drop]
    omega
  unfold Txt.partition
  split
  · exact ⟨sub _ _, .inl rfl, sub _ _⟩
  · exact ⟨Nat.le_refl _, .inr rfl, Nat.zero_le _⟩
end TR

set_option maxHeartbeats 4000000
/-! list(text): a new list of its signs -/
namespace ZS
open PySem PySem.Spec PyProof.Rows
section
variable {prog : Program} {w : World} {A : Around} {E : Value → Shared → Prop} {s : Shared}
theorem hint_str {x : Str} {t : Tok} {Q : Bool → Shared → Prop} (h : Q false s) : wpAny (model prog w) A (Builtin.List.listLengthHint (.str x t)) Q E s := by
  have hT : s.TypeIs (.str x t) "str" := typeIs_str s x t
  unfold Builtin.List.listLengthHint
  refine wpAny_bind (wpAny_specialOf hT PySem.F.slot_str_len.lookup ?_)
  generalize hid : ("str.__len__" : String) = id0
  wp_delta
  rw [show splitId id0 = some ("str", "__len__") from by subst hid; decide +kernel]
  subst hid
  refine wpAny_bind (wpAny_isInstance (T := "str") (b := true) hT (by rw [isSubtype_type]; kernel_rfl) ?_)
  refine wpAny_ite_split (fun hab => absurd hab (by decide)) (fun _ => ?_)
  refine wpAny_ite_split (fun _ => ?_) (fun hab => absurd (by decide +kernel) hab)
  refine wpAny_bind (wpAny_typeOf hT ?_)
  exact wpAny_pure h
theorem extend_str {R : Result → Shared → Prop} (hh : A.handled = none) (x : Str) (t : Tok) (S : Addr) (res : Value) (c₀ : Nat) (hS : s.heap.get? S = some { cls := .type "list", data := .seq #[] c₀ })
    (hR : ∀ h' tk acc' c', (∀ b o, b ≠ S → s.heap.get? b = some o → h'.get? b = some o) → h'.get? S = some { cls := .type "list", dict := none, data := .seq acc' c', slots := #[] } →
      ItemsOf (SignAt x) acc' x.cps.size → R (.ok (.ret res)) { s with heap := h', toks := tk }) (hn : x.cps.size ≤ sizeLine) :
    wpAny (model prog w) A.in1 (Builtin.List.listExtendWith (.ref S) (.str x t) res)
      (fun fin s' => match fin with | .done f => R (.ok f) s' | .again c' => c'.quiet = true ∧ codeAny (model prog w) A c' R s') (fun e s' => R (.error e) s') s := by
  have hSI : S ≠ s.heap.objs.size := Nat.ne_of_lt (Heap.lt_size hS)
  have hSf : S ∉ [s.heap.objs.size] := fun hm => hSI (List.mem_singleton.mp hm)
  unfold Builtin.List.listExtendWith
  refine wpAny_bind (wpAny_typeOf (T := "str") (v := .str x t) (typeIs_str s x t) ?_)
  have h1 : Builtin.List.listSameRef (.ref S) (.str x t) = false := rfl
  have h2 : (Value.type "str" == Value.type "list") = false := by decide
  have h3 : (Value.type "str" == Value.type "tuple") = false := by decide
  simp only [h1, h2, h3, Bool.or_false, Bool.false_eq_true, if_false]
  refine wpAny_bind ?_
  cases ha : x.cps.all (· < 128)
  · refine wpAny_pyIter_wide ha ?_
    refine wpAny_bind (wpAny_holding (hint_str ?_))
    rw [if_neg (by first | decide | decide +kernel)]
    have W := Walks.strWide (prog := prog) (w := w) (A := A.in1) hh s.heap.objs.size x t
    have hst : (s.heap.push { cls := .type "str_iterator", data := .fields #[.str x t, .int 0 0] }).IsStrIter s.heap.objs.size "str_iterator" x t 0 := ⟨_, Heap.get?_push_size _ rfl, rfl, rfl⟩
    refine wpAny_pure ⟨plainId_quiet PySem.F.plain_extend_loop _, codeAny_extend_loopS W.toS hn _ hSf _ x.cps.size 0 _ _ _ rfl (Nat.zero_le _) hst (Heap.get?_push_of_some _ hS) (ItemsOf.nil _) fun s' acc' c' hm hS' hacc => ?_⟩
    rw [Moved.eq_with hm]
    refine hR s'.heap s'.toks acc' c' (fun b ob hb e => hm.heap b ob (fun hmem => ?_) (Heap.get?_push_of_some _ e)) hS' hacc
    rcases List.mem_cons.mp hmem with e' | hmem
    · exact hb e'
    · exact absurd (Heap.lt_size e) (by rw [List.mem_singleton.mp hmem]; exact Nat.lt_irrefl _)
  · refine wpAny_pyIter_ascii ha ?_
    refine wpAny_bind (wpAny_holding (hint_str ?_))
    rw [if_neg (by first | decide | decide +kernel)]
    have W := Walks.strAscii (prog := prog) (w := w) (A := A.in1) hh s.heap.objs.size x t
    have hst : (s.heap.push { cls := .type "str_ascii_iterator", data := .fields #[.str x t, .int 0 0] }).IsStrIter s.heap.objs.size "str_ascii_iterator" x t 0 := ⟨_, Heap.get?_push_size _ rfl, rfl, rfl⟩
    refine wpAny_pure ⟨plainId_quiet PySem.F.plain_extend_loop _, codeAny_extend_loopS W.toS hn _ hSf _ x.cps.size 0 _ _ _ rfl (Nat.zero_le _) hst (Heap.get?_push_of_some _ hS) (ItemsOf.nil _) fun s' acc' c' hm hS' hacc => ?_⟩
    rw [Moved.eq_with hm]
    refine hR s'.heap s'.toks acc' c' (fun b ob hb e => hm.heap b ob (fun hmem => ?_) (Heap.get?_push_of_some _ e)) hS' hacc
    rcases List.mem_cons.mp hmem with e' | hmem
    · exact hb e'
    · exact absurd (Heap.lt_size e) (by rw [List.mem_singleton.mp hmem]; exact Nat.lt_irrefl _)
theorem list_init_str {R : Result → Shared → Prop} (hh : A.handled = none) (x : Str) (t : Tok) (S : Addr) (hS : s.heap.get? S = some { cls := .type "list", data := .seq #[] })
    (hR : ∀ h' tk acc' c', (∀ b o, b ≠ S → s.heap.get? b = some o → h'.get? b = some o) → h'.get? S = some { cls := .type "list", dict := none, data := .seq acc' c', slots := #[] } →
      ItemsOf (SignAt x) acc' x.cps.size → R (.ok (.ret .none)) { s with heap := h', toks := tk }) (hn : x.cps.size ≤ sizeLine) :
    wpAny (model prog w) A.in1 (Builtin.«list.__init__» ⟨[.ref S, .str x t], []⟩)
      (fun fin s' => match fin with | .done f => R (.ok f) s' | .again c' => c'.quiet = true ∧ codeAny (model prog w) A c' R s') (fun e s' => R (.error e) s') s := by
  show wpAny _ _ (do let old ← Builtin.List.listItems (.ref S); Builtin.List.listUpdate (.ref S) (fun _ => #[]); letGo old.toList.reverse; Builtin.List.listExtendWith (.ref S) (.str x t) .none) _ _ s
  refine wpAny_bind ?_
  unfold Builtin.List.listItems
  refine wpAny_bind (wpAny_seqItems hS rfl (wpAny_pure ?_))
  show wpAny _ _ (updateSeq S (fun _ => #[]) >>= fun _ => letGo (#[] : Array Value).toList.reverse >>= fun _ => Builtin.List.listExtendWith (.ref S) (.str x t) .none) _ _ s
  refine wpAny_bind (wpAny_updateSeq hS rfl ?_)
  have hS₂ := Heap.get?_update_self (Obj.mapSeq (fun _ => (#[] : Array Value))) hS rfl
  have oth : ∀ b o, b ≠ S → s.heap.get? b = some o → (s.heap.update S (Obj.mapSeq (fun _ => (#[] : Array Value)))).get? b = some o :=
    fun b o hb e => (Heap.get?_update_other _ _ (Ne.symm hb)).trans e
  refine wpAny_bind (wpAny_letGo ?_)
  refine extend_str hh x t S .none _ hS₂ (fun h' tk acc' c' hk hS' hacc => ?_) hn
  exact hR h' tk acc' c' (fun b o hb e => hk b o hb (oth b o hb e)) hS' hacc
theorem call_list_strW {x : Str} {t : Tok} {Q : Value → Shared → Prop} (hh : A.handled = none) (hn : x.cps.size ≤ sizeLine)
    (hQ : ∀ h' tk acc' c', (∀ b o, s.heap.get? b = some o → h'.get? b = some o) →
      h'.get? s.heap.objs.size = some { cls := .type "list", dict := none, data := .seq acc' c', slots := #[] } → ItemsOf (SignAt x) acc' x.cps.size → Q (.ref s.heap.objs.size) { s with heap := h', toks := tk }) :
    wpAny (model prog w) A (call (.type "list") [.str x t]) Q E s := by
  refine callType_codes (Q₁ := fun obj s₁ => obj = .ref s.heap.objs.size ∧ s₁ = { s with heap := s.heap.push { cls := .type "list", data := .seq #[] } }) PySem.F.called_list (PySem.F.typeCall_list_1 _) PySem.F.entry_list_init
    (code_list_new _ ⟨rfl, rfl⟩) fun obj s₁ h₁ => ?_
  obtain ⟨rfl, rfl⟩ := h₁
  have hS : (s.heap.push { cls := .type "list", data := .seq #[] }).get? s.heap.objs.size = some { cls := .type "list", data := .seq #[] } := Heap.get?_push_size _ rfl
  refine ⟨⟨_, hS, rfl⟩, PySem.F.args_list_init_2 _ _, list_init_str (A := A.in1) hh x t _ hS (fun h' tk acc' c' hk hS' hacc => ?_) hn⟩
  exact ⟨rfl, hQ h' tk acc' c' (fun b o e => hk b o (Nat.ne_of_lt (Heap.lt_size e)) (Heap.get?_push_of_some _ e)) hS' hacc⟩
end
end ZS
namespace L2
open PySem PySem.Spec PyProof.Rows
/-- the signs of a text -/
def signs (x : Str) : List Str := x.cps.toList.map fun c => ⟨#[c]⟩
theorem call_list_str {X : Cx} (hc : X.calm = true) : CallR X (.type "list") (fun xs H Q => ∃ x : Str, xs = [.str x] ∧ x.length ≤ sizeLine ∧ ∀ q, H q = none → Q (.ref q) (upd H q (.lst ((signs x).map V.str)))) := by
  intro pins s σ H xs us Q I r h
  obtain ⟨x, rfl, hz, q⟩ := h
  cases r with
  | cons rx rr =>
    cases rr
    obtain ⟨t, rfl⟩ := rx
    refine ZS.call_list_strW (I.ok.hd hc) hz fun h' tk acc c' hk e hi => ?_
    have hl : x.cps.toList.length = x.cps.size := by simp
    refine ⟨.ref s.heap.objs.size, upd H s.heap.objs.size (.lst ((signs x).map V.str)), I.laid hk (Nat.le_refl _) ⟨by unfold signs; rw [List.length_map, List.length_map, hl]; exact hz, acc.toList, c', ?_, by rw [Array.toArray_toList]; exact e⟩, rfl, q _ (I.hok.fresh (Nat.le_refl _))⟩
    refine vals_of_idx _ _ (by unfold signs; rw [List.length_map, List.length_map, hl, Array.length_toList]; exact hi.1) fun j u hj => ?_
    obtain ⟨c, t', hcx, rfl⟩ := hi.2 j u (by rw [← Array.getElem?_toList]; exact hj)
    exact ⟨.str ⟨#[c]⟩, by unfold signs; rw [List.getElem?_map, List.getElem?_map, Array.getElem?_toList, hcx]; rfl, ⟨_, rfl⟩⟩
end L2

set_option maxHeartbeats 4000000
/-! text.replace(old, new, 1), where old and new come out of lists -/
namespace PySem
open Builtin Builtin.Str PySem.W
theorem args_rep4 (a b c d : Value) : argsOk "str.replace" ⟨[a, b, c, d], []⟩ := rfl
section
variable {prog : Program} {w : World} {A : Around} {E : Value → Shared → Prop} {s : Shared} {x y z : Str} {t u v c : Tok} {Q : Value → Shared → Prop} {K : Frag}
theorem sharing_none {M : Model} {t : Tok} {Q : Bool → Shared → Prop} (X : K.In s.heap) (e : nsIn K cStatics sharingNotToldKey = some none) (h : Q false s) : wpAny M A (sharingNotTold t) Q E s := by
  unfold sharingNotTold
  refine wpAny_bind ((looks_nsIn X e).at ?_)
  exact wpAny_pure h
theorem isSame_strK {M : Model} {Q : Bool → Shared → Prop} (h1 : u ≠ 0) (h2 : v ≠ 0) (X : K.In s.heap) (e : nsIn K cStatics sharingNotToldKey = some none) (hq : ∀ b, Q b s) : wpAny M A (isSame (.str y u) (.str z v)) Q E s := by
  have h0 : (u == 0 || v == 0) = false := by simp [h1, h2]
  show wpAny M A (isSame.created (y == z) u v) Q E s
  unfold isSame.created
  refine wpAny_ite ?_
  split
  · rename_i h; rw [h0] at h; exact absurd h Bool.false_ne_true
  refine wpAny_ite ?_
  split
  · exact wpAny_pure (hq _)
  refine wpAny_ite ?_
  split
  · exact wpAny_pure (hq _)
  refine wpAny_bind (sharing_none X e ?_)
  first | rw [if_neg Bool.false_ne_true] | simp only [Bool.false_eq_true, if_false]
  refine wpAny_bind (sharing_none X e ?_)
  first | rw [if_neg Bool.false_ne_true] | simp only [Bool.false_eq_true, if_false]
  exact wpAny_bind (wpAny_rule (wpAny_bind (wpAny_askSetting (wpAny_pure (hq _)))))
theorem one_cut {cuts : List Nat} (h : cuts.length ≤ 1) : (glued z (partsBetween x cuts y.length)).length ≤ 2 * x.length + z.length := by
  have sub : ∀ i j, (strSub x i j).length ≤ x.length := fun i j => by
    rw [TS.cs_len, TS.cs_len]
    show (strSub x i j).cps.toList.length ≤ x.cps.toList.length
    rw [StrLaws.strSub_toList, List.length_take, List.length_drop]
    omega
  rw [StrLaws.glued_eq_join, StrLaws.partsBetween_eq]
  match cuts, h with
  | [], _ =>
    rw [StrLaws.partsFrom.eq_1, Str.join.eq_2]
    have := sub 0 x.length
    omega
  | [k], _ =>
    rw [StrLaws.partsFrom.eq_2, StrLaws.partsFrom.eq_1, TS.join_two, Str.join.eq_2, Str.length_append, Str.length_append]
    have := sub 0 k
    have := sub (k + y.length) x.length
    omega
theorem call_replace4 (X : K.In s.heap) (e : nsIn K cStatics sharingNotToldKey = some none) (hu : u ≠ 0) (hv : v ≠ 0) (hx : x.length ≤ 100000) (hz : z.length ≤ 100)
    (hq : ∀ (r : Str) t' k, r.length ≤ 2 * x.length + z.length → Q (.str r t') { s with toks := k }) : wpAny (model prog w) A (call (.builtin "str.replace") [.str x t, .str y u, .str z v, .int 1 c]) Q E s := by
  refine wpAny_call (codeAny_call_builtin F.slot_str_replace.plain F.entry_str_replace (F.slot_str_replace.check _ _ _ _ _ _ _ _ (typeIs_str _ _ _) (args_rep4 _ _ _ _) ?_))
  show wpAny _ _ (if ((occurrences x y 0 x.length 1).isEmpty || (y.length == 0 && z.length == 0)) = true then (do rule "str.replace.nothing"; ret (.str x t)) else
          (do let same ← isSame (.str y u) (.str z v)
              if same = true then (do rule "str.replace.old-is-new"; ret (.str x t)) else
              if tooLong (x.length + (occurrences x y 0 x.length 1).length * z.length) = true then unsupported "str.replace:memory" else
              retStr (glued z (partsBetween x (occurrences x y 0 x.length 1) y.length)))) _ _ _
  have h1 := StrLaws.occ_length_le x y 0 x.length 1
  have same : (fun (r : Result) s' => match r with | .ok (.ret v) => Q v s' | .ok _ => False | .error e => E e s') (.ok (.ret (.str x t))) s := hq x t s.toks (by omega)
  split
  · exact wpAny_bind (wpAny_rule (wpAny_pure same))
  refine wpAny_bind (isSame_strK hu hv X e fun b => ?_)
  cases b with
  | true => exact wpAny_bind (wpAny_rule (wpAny_pure same))
  | false =>
    have hl : tooLong (x.length + (occurrences x y 0 x.length 1).length * z.length) = false := by
      have : (occurrences x y 0 x.length 1).length * z.length ≤ 1 * z.length := Nat.mul_le_mul_right _ h1
      unfold tooLong sizeLine
      exact decide_eq_false (by omega)
    show wpAny _ _ (if tooLong (x.length + (occurrences x y 0 x.length 1).length * z.length) = true then unsupported "str.replace:memory" else retStr (glued z (partsBetween x (occurrences x y 0 x.length 1) y.length))) _ _ _
    rw [hl]
    have hb := one_cut (x := x) (y := y) (z := z) h1
    exact wpAny_bind (wpAny_mkStr (wpAny_pure (hq _ _ _ hb)) (by rw [sizeLine_eq]; omega))
end
end PySem

set_option maxHeartbeats 4000000
/-! a written list of texts, whose tokens are known to be none of 0 -/
namespace L2
open PySem PySem.Spec PyProof.Rows CwR
/-- the list at q holds just these values -/
def fzl (q : Addr) (its : List Value) : HO := .ext fun h => ∃ c : Nat, h.get? q = some { cls := .type "list", dict := none, data := .seq its.toArray c, slots := #[] }
theorem fzl_ok {P : Program} {w : World} {H : Hp} {h : Heap} {q : Addr} {its : List Value} {c : Nat} (he : h.get? q = some { cls := .type "list", dict := none, data := .seq its.toArray c, slots := #[] }) : ObjOk P w H h q (fzl q its) :=
  ⟨⟨c, he⟩, ⟨_, he⟩, fun h1 h2 z k => by
    obtain ⟨c, e⟩ := z
    exact ⟨c, k _ e⟩⟩
theorem fzl_ne {q : Addr} {its : List Value} {xs : List V} : fzl q its ≠ .lst xs := fun z => by
  have z' : HO.ext _ = HO.lst xs := z
  cases z'
inductive CEs : List Expr → List Str → Prop
  | nil : CEs [] []
  | cons {es : List Expr} {cs : List Str} (c : Str) (k : Nat) (p : Pos) (h : CEs es cs) : CEs (.Constant (.str c) k p :: es) (c :: cs)
def Nz (cs : List Str) (us : List Value) : Prop := us.length = cs.length ∧ ∀ (i : Nat) (u : Value), us[i]? = some u → ∃ (z : Str) (t : Tok), u = .str z t ∧ t ≠ 0 ∧ cs[i]? = some z
theorem consts_run {X : Cx} {A : Around} {E : Value → Shared → Prop} {es : List Expr} {cs : List Str} (h : CEs es cs) : ∀ {pos : Pos} {s : Shared} {Q : List Value → Shared → Prop}, 1 ≤ s.toks → (∀ us k, s.toks ≤ k → Nz cs us → Q us { s with toks := k }) →
    wpAny (model X.prog X.w) A (spliced (backTo pos (starEach es X.env))) Q E s := by
  induction h with
  | nil => exact fun h0 q => Calls.spliced_nil (q [] _ (Nat.le_refl _) ⟨rfl, fun i u e => by simp at e⟩)
  | cons c k p h ih =>
    intro pos s Q h0 q
    show wpAny _ _ (spliced ((false, eval (.Constant (.str c) k p) X.env) :: backTo pos (starEach _ X.env))) _ _ s
    refine Calls.spliced_cons (Calls.Constant_str ?_)
    refine ih (by show 1 ≤ s.toks + 1; omega) fun us k' hk n => ?_
    refine q _ k' (by have : s.toks + 1 ≤ k' := hk; omega) ⟨by rw [List.length_cons, List.length_cons, n.1], fun i u e => ?_⟩
    cases i with
    | zero =>
      cases e
      exact ⟨c, s.toks, rfl, (by intro z; have : (s.toks : Nat) = 0 := z; omega), rfl⟩
    | succ i => exact n.2 i u e
def tFz (cs : List Str) : TE := fun σ H Q => ∀ (q : Addr) (its : List Value), H q = none → Nz cs its → Q (.ref q) (upd H q (fzl q its))
theorem pet_fz {X : Cx} {es : List Expr} {cs : List Str} {pos : Pos} (h : CEs es cs) (hl : cs.length ≤ 100) : PET X (.List es pos) (tFz cs) := by
  intro pins s σ H Q h0 I hq
  refine wpAny_List_spliced (consts_run h h0 fun us k hk n => ⟨by rw [n.1]; exact Nat.le_trans hl (by decide), ?_⟩)
  have I1 : Inv X pins σ H { s with toks := k } := I.tok k
  have hf : H s.heap.objs.size = none := I.hok.fresh (Nat.le_refl _)
  refine ⟨.ref s.heap.objs.size, upd H s.heap.objs.size (fzl s.heap.objs.size us), I1.laid (t' := k) (fun b u e => Heap.get?_push_of_some _ e) (Nat.le_refl _) ?_, rfl, hq _ _ hf n⟩
  exact fzl_ok (Heap.get?_push_size _ rfl)
theorem call_lenF {X : Cx} : CallR X (.builtin "len") (fun xs H Q => ∃ (q : Addr) (its : List Value), xs = [.ref q] ∧ H q = some (fzl q its) ∧ its.length ≤ 100 ∧ Q (.int (its.length : Nat)) H) := by
  intro pins s σ H xs us Q I r h
  obtain ⟨p, its, rfl, hq, hl, q⟩ := h
  obtain ⟨u, rfl, rx⟩ := vals1 r
  cases rx
  have hn := line63
  obtain ⟨⟨c, he⟩, _⟩ := I.hok _ _ hq
  have pl : s.heap.IsList p its.toArray := ⟨_, he, rfl, _, rfl⟩
  exact Calls.call_len_list pl (by simp only [List.size_toArray] <;> omega) ⟨.int (its.length : Nat), H, I.tok _, ⟨s.toks + 1, by rw [List.size_toArray]⟩, q⟩
/-- a def, run: what it gives back is told as a value -/
theorem fn_ofU {CX : CXT} {P : Program} {w : World} {K : PySem.W.Frag} {mg : Str → Option Value} {base : Heap} {k : Nat} {f : Addr} {name qual : Str} {params : Arguments} {body : List Stmt} {scope : Scope} {dV kV doc pm cdv ct oc : Value} {an od : Option Addr}
    {osl : Array (Option Value)} {N ps : List Str} (lk : K.lookup f = some ⟨oc, od, .func (PySem.W.fnOf name qual params body scope dV kV doc pm an cdv ct), osl⟩) (hcd : PySem.W.codeIn K cdv qual = true) (S : FnScope N ps scope)
    {A : Around} {outer : List Env} {s : Shared} {H : Hp} {args : Args} {us : List Value} {vs : List V} {Q : VK} {E : XK} {UE : Value → Prop} (hl : vs.length = ps.length) (hr : Room (k + 1) A) (e0 : Env0 P w K mg base A outer s H)
    (hb : BindsTo s (PySem.W.fnOf name qual params body scope dV kV doc pm an cdv ct) args (ps.zip us)) (r : Vals vs us)
    (hbody : Room k (A.deeper (envOfC qual scope s.heap.objs.size f cdv)) → ∀ s1, Inv (cxOf CX P w K mg base N qual scope f cdv A outer s H E) [] (start N vs) H s1 → wpAny (model P w) (A.deeper (envOfC qual scope s.heap.objs.size f cdv)) (execs body (envOfC qual scope s.heap.objs.size f cdv))
      (fun fl s' => ∃ u, fl = .ret u ∧ UE u ∧ ∃ v σ' H', Inv (cxOf CX P w K mg base N qual scope f cdv A outer s H E) [] σ' H' s' ∧ RelV v u ∧ Q v H') (cxOf CX P w K mg base N qual scope f cdv A outer s H E).xe s1) :
    codeAny (model P w) A (.call (.ref f) args) (fun r s' => match r with
      | .ok (.ret u) => UE u ∧ CE outer P w H s Q u s'
      | .ok _ => False
      | .error e => CX outer H s E e s') s := by
  have KX : K.In s.heap := e0.mod.kin.keeps fun b o e => (e0.bs b o e).1
  have lim : s.heap.NoLimit := e0.mod.nolimit.keeps fun b o e => (e0.bs b o e).1
  have hkind : ∀ y ∈ ps.zip us, scope.names.lookup y.1 = some .local ∨ (scope.names.lookup y.1 = some .cell ∧ ((cellsFrom (s.heap.objs.size + 1) scope.names []).lookup y.1).isSome = true) := fun ⟨n, v⟩ hy => by
    rcases S.par n (List.of_mem_zip hy).1 with q | q
    · exact .inl q
    · exact .inr ⟨q, PySem.W.cellsFrom_some _ _ _ (.inl q)⟩
  refine codeAny_call_function hr.depth (KX _ _ lk) rfl S.co S.gen rfl (PySem.W.codeRec_of KX hcd) (hb _ _ _ _ ?_)
  refine wpAny_newFunctionEnv_cells S.kind hkind fun env he s1 x => ?_
  subst he
  refine ⟨lim.keeps x.toInCall.keep, codeAny_func ?_⟩
  have I : Inv (cxOf CX P w K mg base N qual scope f cdv A outer s H E) [] (start N vs) H s1 := inv_start S hr.hd e0 hl r x
  refine wpAny_mono (hbody (hr.deeper _) s1 I) (fun fl s' hs => ?_) fun e s' hs => hs
  obtain ⟨u, rfl, hu, v, σ', H', J, rv, q⟩ := hs
  exact ⟨hu, v, H', J.os, J.bare, J.base, J.hok, rv, q⟩
/-- return xs[e], xs a written list: one of its values -/
theorem ret_item {X : Cx} {x : Str} {i : Nat} {e : Expr} {te : TE} {p pos rp : Pos} {pins : List (Addr × Obj)} {s : Shared} {σ : St} {H : Hp} {Q : Hp → Prop} {q : Addr} {its : List Value} {cs : List Str} (hx : PE X (.Name x p) (tVar i)) (he : PE X e te) (hs : PlainIx e) (I : Inv X pins σ H s) (hσ : σ[i]? = some (some (.ref q))) (n : Nz cs its) (h100 : cs.length ≤ 100)
    (h : te σ H fun y H1 => ∃ j : Nat, y = .int (j : Int) ∧ j < its.length ∧ H1 q = some (fzl q its) ∧ Q H1) :
    wpAny (model X.prog X.w) X.A (execs [.Return (some (.Subscript (.Name x p) e pos)) rp] X.env) (fun fl s' => ∃ u, fl = .ret u ∧ u ∈ its ∧ ∃ v σ' H', Inv X pins σ' H' s' ∧ RelV v u ∧ (∃ z, z ∈ cs ∧ v = V.str z) ∧ Q H') X.xe s := by
  have E1 : wpAny (model X.prog X.w) X.A (eval (.Subscript (.Name x p) e pos) X.env) (fun u s' => u ∈ its ∧ ∃ v H', Inv X pins σ H' s' ∧ RelV v u ∧ (∃ z, z ∈ cs ∧ v = V.str z) ∧ Q H') X.xe s := by
    refine Subscript_ (thn (hx.run pins s σ H (fun x H1 => x = .ref q ∧ H1 = H) I ⟨_, hσ, rfl, rfl⟩) fun v s1 ⟨x, H1, I1, r1, e1, e2⟩ => ?_)
    subst e1
    subst e2
    cases r1
    refine thn (he.run pins s1 σ _ _ I1 h) fun u s2 ⟨y, H2, I2, r2, j, ey, hj, hq2, q2⟩ => ?_
    subst ey
    obtain ⟨t, rfl⟩ := r2
    obtain ⟨⟨c, hc⟩, _⟩ := I2.hok _ _ hq2
    have pl : s2.heap.IsList q its.toArray := ⟨_, hc, rfl, _, rfl⟩
    have hit : its[j]? = some its[j] := List.getElem?_eq_getElem hj
    obtain ⟨z, tz, e1, e2, e3⟩ := n.2 j _ hit
    have h1 := n.1
    have h63 : j < 2 ^ 63 := by
      have e63 : (2 : Nat) ^ 63 = 9223372036854775808 := by decide
      rw [e63]
      omega
    exact item_listR (k := (j : Int)) pl (by omega) (by omega) (by rw [Int.toNat_natCast]; simpa using hit) ⟨List.getElem_mem hj, .str z, H2, I2, by rw [e1]; exact ⟨tz, rfl⟩, ⟨z, List.mem_of_getElem? e3, rfl⟩, q2⟩ (hs _ _)
  refine wpAny_execs_cons (wpAny_Return_some (thn E1 fun u s' hh => ?_))
  obtain ⟨h1, v, H', I', rv, hz, q'⟩ := hh
  exact ⟨u, rfl, h1, v, σ, H', I', rv, hz, q'⟩
end L2

set_option maxHeartbeats 4000000
/-! list(text) of small signs, its texts with tokens that are known not to be 0; such a list and a written one -/
namespace ZS
open PySem PySem.Spec PyProof.Rows
def SgnNz (x : Str) (i : Nat) (v : Value) : Prop := ∃ c u, x.cps[i]? = some c ∧ v = .str ⟨#[c]⟩ u ∧ u ≠ 0
theorem walksNz {prog : Program} {w : World} {A : Around} (hh : A.handled = none) (I : Addr) (x : Str) (t : Tok) :
    WalksS prog w A I [I] [I] (fun a b => b = a) x.cps.size (SgnNz x) (fun i s => s.heap.IsStrIter I "str_ascii_iterator" x t i ∧ 1 ≤ s.toks) where
  sub := fun _ hb => hb
  grefl := fun _ => rfl
  gtrans := fun _ _ _ h1 h2 => h2.trans h1
  frame := fun i s h' tk st ht hk => ⟨let ⟨o, ho, r⟩ := st.1; ⟨o, hk I (by simp) o ho, r⟩, by have := st.2; show 1 ≤ tk; omega⟩
  item := fun i s Q E hi st hQ => by
    refine wpAny_pyNext_ascii_item st.1 (c := x.cps[i]) (by simp [hi]) fun h' hit' hs' => ?_
    have h1 := st.2
    exact hQ _ { s with heap := h', toks := s.toks + 1 } ⟨_, _, by simp [hi], rfl, by intro z; have : (s.toks : Nat) = 0 := z; omega⟩ ⟨hit', by show 1 ≤ s.toks + 1; omega⟩ ⟨fun b o hb e => hs'.extBut b o (fun h => hb (by simp [h])) e, rfl, rfl, rfl, Nat.le_succ _⟩
  done := fun s Q E st hQ => wpAny_pyNext_ascii_end hh st.1 (by simp) fun h' he' => hQ { s with heap := h' } ⟨fun b o hb e => he' b o (fun h => hb (by simp [h])) e, rfl, rfl, rfl, Nat.le_refl _⟩
  self := fun _ _ _ _ st hQ => wpAny_pyIter_striter_ascii st.1 hQ
section
variable {prog : Program} {w : World} {A : Around} {E : Value → Shared → Prop} {s : Shared}
theorem extend_nz {R : Result → Shared → Prop} (hh : A.handled = none) (x : Str) (t : Tok) (S : Addr) (res : Value) (c₀ : Nat) (ha : x.cps.all (· < 128) = true) (h0 : 1 ≤ s.toks) (hS : s.heap.get? S = some { cls := .type "list", data := .seq #[] c₀ })
    (hR : ∀ h' tk acc' c', (∀ b o, b ≠ S → s.heap.get? b = some o → h'.get? b = some o) → h'.get? S = some { cls := .type "list", dict := none, data := .seq acc' c', slots := #[] } →
      ItemsOf (SgnNz x) acc' x.cps.size → s.toks ≤ tk → R (.ok (.ret res)) { s with heap := h', toks := tk }) (hn : x.cps.size ≤ sizeLine) :
    wpAny (model prog w) A.in1 (Builtin.List.listExtendWith (.ref S) (.str x t) res)
      (fun fin s' => match fin with | .done f => R (.ok f) s' | .again c' => c'.quiet = true ∧ codeAny (model prog w) A c' R s') (fun e s' => R (.error e) s') s := by
  have hSI : S ≠ s.heap.objs.size := Nat.ne_of_lt (Heap.lt_size hS)
  have hSf : S ∉ [s.heap.objs.size] := fun hm => hSI (List.mem_singleton.mp hm)
  unfold Builtin.List.listExtendWith
  refine wpAny_bind (wpAny_typeOf (T := "str") (v := .str x t) (typeIs_str s x t) ?_)
  have h1 : Builtin.List.listSameRef (.ref S) (.str x t) = false := rfl
  have h2 : (Value.type "str" == Value.type "list") = false := by decide
  have h3 : (Value.type "str" == Value.type "tuple") = false := by decide
  simp only [h1, h2, h3, Bool.or_false, Bool.false_eq_true, if_false]
  refine wpAny_bind ?_
  refine wpAny_pyIter_ascii ha ?_
  refine wpAny_bind (wpAny_holding (hint_str ?_))
  rw [if_neg (by first | decide | decide +kernel)]
  have W := walksNz (prog := prog) (w := w) (A := A.in1) hh s.heap.objs.size x t
  have hst : (s.heap.push { cls := .type "str_ascii_iterator", data := .fields #[.str x t, .int 0 0] }).IsStrIter s.heap.objs.size "str_ascii_iterator" x t 0 := ⟨_, Heap.get?_push_size _ rfl, rfl, rfl⟩
  refine wpAny_pure ⟨plainId_quiet PySem.F.plain_extend_loop _, codeAny_extend_loopS W hn _ hSf _ x.cps.size 0 _ _ _ rfl (Nat.zero_le _) ⟨hst, h0⟩ (Heap.get?_push_of_some _ hS) (ItemsOf.nil _) fun s' acc' c' hm hS' hacc => ?_⟩
  rw [Moved.eq_with hm]
  refine hR s'.heap s'.toks acc' c' (fun b ob hb e => hm.heap b ob (fun hmem => ?_) (Heap.get?_push_of_some _ e)) hS' hacc hm.toks
  rcases List.mem_cons.mp hmem with e' | hmem
  · exact hb e'
  · exact absurd (Heap.lt_size e) (by rw [List.mem_singleton.mp hmem]; exact Nat.lt_irrefl _)
theorem list_init_nz {R : Result → Shared → Prop} (hh : A.handled = none) (x : Str) (t : Tok) (S : Addr) (ha : x.cps.all (· < 128) = true) (h0 : 1 ≤ s.toks) (hS : s.heap.get? S = some { cls := .type "list", data := .seq #[] })
    (hR : ∀ h' tk acc' c', (∀ b o, b ≠ S → s.heap.get? b = some o → h'.get? b = some o) → h'.get? S = some { cls := .type "list", dict := none, data := .seq acc' c', slots := #[] } →
      ItemsOf (SgnNz x) acc' x.cps.size → s.toks ≤ tk → R (.ok (.ret .none)) { s with heap := h', toks := tk }) (hn : x.cps.size ≤ sizeLine) :
    wpAny (model prog w) A.in1 (Builtin.«list.__init__» ⟨[.ref S, .str x t], []⟩)
      (fun fin s' => match fin with | .done f => R (.ok f) s' | .again c' => c'.quiet = true ∧ codeAny (model prog w) A c' R s') (fun e s' => R (.error e) s') s := by
  show wpAny _ _ (do let old ← Builtin.List.listItems (.ref S); Builtin.List.listUpdate (.ref S) (fun _ => #[]); letGo old.toList.reverse; Builtin.List.listExtendWith (.ref S) (.str x t) .none) _ _ s
  refine wpAny_bind ?_
  unfold Builtin.List.listItems
  refine wpAny_bind (wpAny_seqItems hS rfl (wpAny_pure ?_))
  show wpAny _ _ (updateSeq S (fun _ => #[]) >>= fun _ => letGo (#[] : Array Value).toList.reverse >>= fun _ => Builtin.List.listExtendWith (.ref S) (.str x t) .none) _ _ s
  refine wpAny_bind (wpAny_updateSeq hS rfl ?_)
  have hS₂ := Heap.get?_update_self (Obj.mapSeq (fun _ => (#[] : Array Value))) hS rfl
  have oth : ∀ b o, b ≠ S → s.heap.get? b = some o → (s.heap.update S (Obj.mapSeq (fun _ => (#[] : Array Value)))).get? b = some o :=
    fun b o hb e => (Heap.get?_update_other _ _ (Ne.symm hb)).trans e
  refine wpAny_bind (wpAny_letGo ?_)
  refine extend_nz hh x t S .none _ ha h0 hS₂ (fun h' tk acc' c' hk hS' hacc htk => ?_) hn
  exact hR h' tk acc' c' (fun b o hb e => hk b o hb (oth b o hb e)) hS' hacc htk
theorem call_list_nz {x : Str} {t : Tok} {Q : Value → Shared → Prop} (hh : A.handled = none) (hn : x.cps.size ≤ sizeLine) (ha : x.cps.all (· < 128) = true) (h0 : 1 ≤ s.toks)
    (hQ : ∀ h' tk acc' c', (∀ b o, s.heap.get? b = some o → h'.get? b = some o) →
      h'.get? s.heap.objs.size = some { cls := .type "list", dict := none, data := .seq acc' c', slots := #[] } → ItemsOf (SgnNz x) acc' x.cps.size → s.toks ≤ tk → Q (.ref s.heap.objs.size) { s with heap := h', toks := tk }) :
    wpAny (model prog w) A (call (.type "list") [.str x t]) Q E s := by
  refine callType_codes (Q₁ := fun obj s₁ => obj = .ref s.heap.objs.size ∧ s₁ = { s with heap := s.heap.push { cls := .type "list", data := .seq #[] } }) PySem.F.called_list (PySem.F.typeCall_list_1 _) PySem.F.entry_list_init
    (code_list_new _ ⟨rfl, rfl⟩) fun obj s₁ h₁ => ?_
  obtain ⟨rfl, rfl⟩ := h₁
  have hS : (s.heap.push { cls := .type "list", data := .seq #[] }).get? s.heap.objs.size = some { cls := .type "list", data := .seq #[] } := Heap.get?_push_size _ rfl
  refine ⟨⟨_, hS, rfl⟩, PySem.F.args_list_init_2 _ _, list_init_nz (A := A.in1) hh x t _ ha h0 hS (fun h' tk acc' c' hk hS' hacc htk => ?_) hn⟩
  exact ⟨rfl, hQ h' tk acc' c' (fun b o e => hk b o (Nat.ne_of_lt (Heap.lt_size e)) (Heap.get?_push_of_some _ e)) hS' hacc htk⟩
end
end ZS
namespace L2
open PySem PySem.Spec PyProof.Rows CwR
theorem sm_new {H : Hp} {p : Addr} {o : HO} (hp : H p = none) : Same H (upd H p o) := fun b u e => by
  rw [upd_ne (ne_of_none e hp)]
  exact e
/-- a list of texts is made, its values known; all else stays -/
def tFw (cs : List Str) : TE := fun σ H Q => ∀ (q : Addr) (its : List Value) (H' : Hp), Same H H' → H q = none → H' q = some (fzl q its) → Nz cs its → Q (.ref q) H'
theorem pet_fw {X : Cx} {es : List Expr} {cs : List Str} {pos : Pos} (h : CEs es cs) (hl : cs.length ≤ 100) : PET X (.List es pos) (tFw cs) := fun pins s σ H Q h0 I hq =>
  pet_fz h hl pins s σ H Q h0 I fun q its hn nz => hq q its _ (sm_new hn) hn upd_same nz
theorem nz_app {cs ds : List Str} {us vs : List Value} (h : Nz cs us) (k : Nz ds vs) : Nz (cs ++ ds) (us ++ vs) := by
  refine ⟨by rw [List.length_append, List.length_append, h.1, k.1], fun i u e => ?_⟩
  rcases Nat.lt_or_ge i us.length with hi | hi
  · rw [List.getElem?_append_left hi] at e
    rw [List.getElem?_append_left (by rw [← h.1]; exact hi)]
    exact h.2 i u e
  · rw [List.getElem?_append_right hi] at e
    rw [List.getElem?_append_right (by rw [← h.1]; exact hi), ← h.1]
    exact k.2 _ u e
theorem nz_signs {x : Str} {acc : Array Value} (h : ItemsOf (ZS.SgnNz x) acc x.cps.size) : Nz (signs x) acc.toList := by
  have hl : x.cps.toList.length = x.cps.size := by simp
  refine ⟨by unfold signs; rw [List.length_map, hl, Array.length_toList]; exact h.1, fun i u e => ?_⟩
  obtain ⟨c, t', hcx, rfl, ht⟩ := h.2 i u (by rw [← Array.getElem?_toList]; exact e)
  exact ⟨⟨#[c]⟩, t', rfl, ht, by unfold signs; rw [List.getElem?_map, Array.getElem?_toList, hcx]; rfl⟩
/-- list("..") + [..] -/
theorem pe_signs {X : Cx} {x : Str} {k : Nat} {p0 p1 cp p2 bp : Pos} {es : List Expr} {cs : List Str} (hc : X.calm = true) (hg : Gl X "list") (hm : X.mg "list" = none) (hb : bootBuiltins "list" = some (.type "list")) (he : CEs es cs) (hl : cs.length ≤ 100) (hx : x.cps.size ≤ 100) (ha : x.cps.all (· < 128) = true) :
    PE X (.BinOp (.Call (.Name "list" p0) [.Constant (.str x) k cp] [] p1) .Add (.List es p2) bp) (tFw (signs x ++ cs)) := by
  refine ⟨fun pins s σ H Q I hq => ?_⟩
  have hs : (sizeLine : Nat) ≥ 1000 := by decide
  refine wpAny_BinOp (wpAny_Call_Name_kw (ld_blt I hg hm hb ?_ (by decide) (by decide)))
  refine PyProof.Rows.callWith_type1 (rest := []) ?_ (by rfl) (by rfl)
  show wpAny _ _ (spliced ((false, eval (.Constant (.str x) k cp) X.env) :: backTo p1 (starEach [] X.env))) _ _ s
  refine Calls.spliced_cons (Calls.Constant_str ?_)
  refine Calls.spliced_nil ?_
  have I1 : Inv X pins σ H { s with toks := s.toks + 1 } := I.tok (s.toks + 1)
  refine ZS.call_list_nz (s := { s with toks := s.toks + 1 }) (I.ok.hd hc) (by omega) ha (by show 1 ≤ s.toks + 1; omega) fun h' tk acc c' hk e hi htk => ?_
  have nz := nz_signs hi
  have hf : H s.heap.objs.size = none := I.hok.fresh (Nat.le_refl _)
  have I2 : Inv X pins σ (upd H s.heap.objs.size (fzl s.heap.objs.size acc.toList)) { s with heap := h', toks := tk } := I1.laid (t' := tk) hk (Nat.le_refl _) (fzl_ok (c := c') (by rw [Array.toArray_toList]; exact e))
  have n1 : Same H (upd H s.heap.objs.size (fzl s.heap.objs.size acc.toList)) := sm_new hf
  refine thn (pet_fz he hl pins _ σ _ (fun v H2 => ∃ q its, v = .ref q ∧ H2 = upd (upd H s.heap.objs.size (fzl s.heap.objs.size acc.toList)) q (fzl q its) ∧ (upd H s.heap.objs.size (fzl s.heap.objs.size acc.toList)) q = none ∧ Nz cs its) (by have : s.toks + 1 ≤ tk := htk; show 1 ≤ tk; omega) I2 fun q its hn nz2 => ⟨q, its, rfl, rfl, hn, nz2⟩) fun u s2 hh => ?_
  obtain ⟨_, H2, I3, ru, q, its, rfl, rfl, hn, nz2⟩ := hh
  cases ru
  have n2 := sm_new (o := fzl q its) hn
  obtain ⟨⟨c1, e1⟩, _⟩ := I3.hok _ _ (n2 _ _ (upd_same (H := H) (a := s.heap.objs.size) (o := fzl s.heap.objs.size acc.toList)))
  obtain ⟨⟨c2, e2⟩, _⟩ := I3.hok _ _ (upd_same (H := upd H s.heap.objs.size (fzl s.heap.objs.size acc.toList)) (a := q) (o := fzl q its))
  have l1 : acc.toList.length ≤ 100 := by rw [nz.1]; unfold signs; rw [List.length_map]; simpa using hx
  have l2 : its.length ≤ 100 := by rw [nz2.1]; exact hl
  refine PySem.P.add_list e1 e2 ?_ (by rw [List.size_toArray, List.size_toArray]; omega)
  have ea : acc.toList.toArray ++ its.toArray = (acc.toList ++ its).toArray := by simp
  rw [ea]
  have hf3 := I3.hok.fresh (Nat.le_refl s2.heap.objs.size)
  refine ⟨.ref s2.heap.objs.size, upd _ s2.heap.objs.size (fzl s2.heap.objs.size (acc.toList ++ its)), I3.laid (t' := s2.toks) (fun b u e => Heap.get?_push_of_some _ e) (Nat.le_refl _) (fzl_ok (c := 0) (Heap.get?_push_size _ rfl)), rfl, hq _ _ _ ((n1.trans n2).trans (sm_new hf3)) ?_ upd_same (nz_app nz nz2)⟩
  cases eo : H s2.heap.objs.size with
  | none => rfl
  | some o =>
    have := (n1.trans n2) _ _ eo
    rw [hf3] at this
    cases this
end L2

set_option maxHeartbeats 2000000
namespace PLow
open PySem PySem.W PySem.Calls PyProof.Rows
section
variable {prog : Program} {w : World} {M : Model} {A : Around} {E : Value → Shared → Prop} {s : Shared} {K : Frag} {x C L f : Addr} {h₀ : Heap} {m : Str → Option Value} {ox : Obj} {od : Option Obj} {nm : String}

/-- an int's own slot declines an instance -/
theorem add_declines {a : Int} {t : Tok} {R : PySem.Fin → Shared → Prop} (ho : s.heap.get? x = some ox) (hd : ∀ v, ox.data ≠ .prim v) (h : R (.done (.ret .notImplemented)) s) :
    wpAny (model prog w) A (Builtin.«int.__add__» ⟨[Value.int a t, Value.ref x], []⟩) R E s := by
  obtain ⟨hp, g, d, tk, os⟩ := s
  wp_walk
  split
  · rename_i e
    exact absurd e (hd _)
  · wp_walk
    exact h
theorem sub_declines {a : Int} {t : Tok} {R : PySem.Fin → Shared → Prop} (ho : s.heap.get? x = some ox) (hd : ∀ v, ox.data ≠ .prim v) (h : R (.done (.ret .notImplemented)) s) :
    wpAny (model prog w) A (Builtin.«int.__sub__» ⟨[Value.int a t, Value.ref x], []⟩) R E s := by
  obtain ⟨hp, g, d, tk, os⟩ := s
  wp_walk
  split
  · rename_i e
    exact absurd e (hd _)
  · wp_walk
    exact h
theorem mul_declines {a : Int} {t : Tok} {R : PySem.Fin → Shared → Prop} (ho : s.heap.get? x = some ox) (hd : ∀ v, ox.data ≠ .prim v) (h : R (.done (.ret .notImplemented)) s) :
    wpAny (model prog w) A (Builtin.«int.__mul__» ⟨[Value.int a t, Value.ref x], []⟩) R E s := by
  obtain ⟨hp, g, d, tk, os⟩ := s
  wp_walk
  split
  · rename_i e
    exact absurd e (hd _)
  · wp_walk
    exact h

/-- the left operand's own slot, the right one declines: an int and an instance with the reflected method -/
theorem rbin {op : Operator} {id : String} {a : Int} {t : Tok} {B : Builtin} {Q : Value → Shared → Prop} {g : Addr} (F : Fr h₀ L s.heap m) (X₀ : K.In h₀) (I : InstAt s.heap x ox C od) (hc : selfFirst K C = true)
    (hs : findIn K (.ref C) (PySem.dunder op.info.2) = some (some (.ref g))) (hr : findIn K (.ref C) (dunderR op.info.2) = some (some (.ref f))) (hf : isFn K (.ref f) = true)
    (hfT : fillsNumberSlot (.type "int") op.info.2 = pure true) (hsub : subIn K (.ref C) (.type "int") = some false)
    (slot : Slot "int" (PySem.dunder op.info.2) id) (entry : entryFor table id = some B) (args : argsOk id ⟨[Value.int a t, .ref x], []⟩)
    (dec : ∀ (A : Around) (E : Value → Shared → Prop) (R : PySem.Fin → Shared → Prop), R (.done (.ret .notImplemented)) s → wpAny (model prog w) A (B ⟨[Value.int a t, .ref x], []⟩) R E s)
    (h : wpAny (model prog w) A (call (.ref f) [.ref x, .int a t]) (PySem.W.CmpBack Q) E s) : wpAny (model prog w) A (binaryOp op (.int a t) (.ref x)) Q E s := by
  have X := X₀.keeps F.keep
  obtain ⟨cd, rest, hcd, hm⟩ := ksp_first hc
  rcases hi : op.info with ⟨sym, nm'⟩
  rw [hi] at hs hr hfT slot
  dsimp only at hs hr hfT slot
  have one := ksp_try X I hr hf h
  have L0 : Looks (model prog w) s.heap (typeOf (.int a t)) (.type "int") := Looks.of_pure rfl
  have L1 : Looks (model prog w) s.heap (typeOf (.ref x)) (.ref C) := I.type
  have L3 : Looks (model prog w) s.heap (fillsNumberSlot (.ref C) nm') true := fills_K X hcd hm hs
  have L5 : Looks (model prog w) s.heap (isSubtype (.ref C) (.type "int")) false := looks_subIn X hsub
  have hne : (Value.type "int" == Value.ref C) = false := Bool.eq_false_iff.mpr fun q => by cases beq_iff_eq.mp q
  have hpy : numberSlotInPython (.type "int") nm' = pure false := rfl
  simp only [binaryOp, hi]
  refine wpAny_holding (wpAny_bind ?_)
  unfold binaryOp1
  refine wpAny_bind (L0.here (wpAny_bind (L1.here (wpAny_bind (wpAny_of_eq hfT ?_)))))
  simp only [hne, Bool.false_eq_true, if_false]
  refine wpAny_bind (L3.here ?_)
  simp only [Bool.and_self, if_true]
  refine wpAny_bind (L5.here ?_)
  simp only [Bool.false_eq_true, if_false, pure_bind, Bool.not_false, Bool.and_self, if_true, hpy]
  refine wpAny_bind (wpAny_tryMethod_declines (id := id) (typeIs_int s a t) slot ?_)
  refine GQ.call_here slot (typeIs_int s a t) entry args (dec _ _ _ ?_)
  refine ⟨rfl, ?_⟩
  refine wpAny_bind (wpAny_mono one (fun r s' hr' => ?_) fun _ _ e => e)
  obtain ⟨v, rfl, hq⟩ := hr'
  dsimp only
  exact wpAny_bind (wpAny_rule (wpAny_pure (wpAny_pure hq)))

/-- abs(x) by the own method -/
theorem abs_own {Q : Value → Shared → Prop} (F : Fr h₀ L s.heap m) (X₀ : K.In h₀) (I : InstAt s.heap x ox C od) (hs : findIn K (.ref C) "__abs__" = some (some (.ref f))) (hf : isFn K (.ref f) = true)
    (h : wpAny (model prog w) A.in1 (call (.ref f) [.ref x]) Q E s) : wpAny (model prog w) A (call (.builtin "abs") [.ref x]) Q E s := by
  refine call_function_entry kind_abs plain_abs entry_abs (args_abs _) ?_
  unfold Builtin.«abs»
  refine wpAny_bind (m := oneArg "abs" _) (wpAny_pure ?_)
  refine wpAny_bind (special_fn (X₀.keeps F.keep) I hs (beq_iff_eq.mp hf) ?_)
  exact wpAny_mono h (fun v s' q => wpAny_pure ⟨v, rfl, q⟩) fun _ _ z => z
end
end PLow

namespace L2
open PySem PySem.Spec PyProof.Rows
section
variable {X : Cx} {CX : CXT} {k : Nat} {C f g : Addr} {fd : FuncData} {ps : List Str} {sp : Sp} {E : XK} {op : Operator}
theorem cmpBack_of {pins : List (Addr × Obj)} {σ : St} {Q : VK} {u : Value} {s' : Shared} (h : EP X pins σ Q u s') : PySem.W.CmpBack (EP X pins σ Q) u s' := by
  obtain ⟨v, H', I, r, q⟩ := id h
  cases v with
  | non => cases (show u = Value.none from r); exact h
  | bl b => cases (show u = Value.bool b from r); exact h
  | int i => obtain ⟨t, e⟩ := (show ∃ t, u = Value.int i t from r); cases e; exact h
  | str x => obtain ⟨t, e⟩ := (show ∃ t, u = Value.str x t from r); cases e; exact h
  | byt b => obtain ⟨t, e⟩ := (show ∃ t, u = Value.bytes b t from r); cases e; exact h
  | flt b => obtain ⟨t, e⟩ := (show ∃ t, u = Value.float b t from r); cases e; exact h
  | ref a => cases (show u = Value.ref a from r); exact h
  | ty n => cases (show u = Value.type n from r); exact h
/-- what of the class an own operator asks: f the method, g the reflected one -/
structure OwnOp (K : PySem.W.Frag) (C f g : Addr) (op : Operator) : Prop where
  first : PySem.W.selfFirst K C = true
  at_ : PySem.W.findIn K (.ref C) (PySem.dunder op.info.2) = some (some (.ref f))
  fn : PySem.W.isFn K (.ref f) = true
  ar : PySem.W.findIn K (.ref C) (dunderR op.info.2) = some (some (.ref g))
  fr : PySem.W.isFn K (.ref g) = true
  sub : PySem.W.subIn K (.type "int") (.ref C) = some false
  sub' : PySem.W.subIn K (.ref C) (.type "int") = some false
/-- x op y, x an instance with the own method, y an instance of the same class -/
theorem op_ownR (O : OwnOp X.K C f g op) (F : FnOk X.prog X.w X.K X.mg X.base CX k f fd ps sp) (hr : Room k X.A) (hb : Binds X.K fd ps []) (hx : Passes CX X E) :
    OpR X (binaryOp op) (fun x y H Q => ∃ a b dx dy fs gs, x = .ref a ∧ y = .ref b ∧ H a = some (.ins C dx fs) ∧ H b = some (.ins C dy gs) ∧ sp [.ref a, .ref b] H Q E) := by
  intro pins s σ H x y v u Q I rx ry h
  obtain ⟨a, b, dx, dy, fs, gs, rfl, rfl, ha, hb', q⟩ := h
  cases rx
  cases ry
  obtain ⟨mA, J, _⟩ := ins_get I.hok ha
  obtain ⟨mB, J', _⟩ := ins_get I.hok hb'
  obtain ⟨od, J, _⟩ := J.look
  obtain ⟨od', J', _⟩ := J'.look
  obtain ⟨m, hF⟩ := I.fr
  refine PySem.W.binop_K hF I.ok.mod.kin J J'.type O.first O.at_ O.fn ?_
  exact wpAny_mono (run_fn (us := [.ref a, .ref b]) (vs := [.ref a, .ref b]) F hr hb .nil hx I (.cons rfl (.cons rfl .nil)) q) (fun _ _ z => cmpBack_of z) fun _ _ z => z
/-- x op i, i an int -/
theorem op_ownI {fo ro : Option Value} (O : OwnOp X.K C f g op) (h1 : PySem.W.findIn X.K (.type "int") (PySem.dunder op.info.2) = some fo) (h2 : PySem.W.findIn X.K (.type "int") (dunderR op.info.2) = some ro)
    (F : FnOk X.prog X.w X.K X.mg X.base CX k f fd ps sp) (hr : Room k X.A) (hb : Binds X.K fd ps []) (hx : Passes CX X E) :
    OpR X (binaryOp op) (fun x y H Q => ∃ a i dx fs, x = .ref a ∧ y = .int i ∧ H a = some (.ins C dx fs) ∧ sp [.ref a, .int i] H Q E) := by
  intro pins s σ H x y v u Q I rx ry h
  obtain ⟨a, i, dx, fs, rfl, rfl, ha, q⟩ := h
  cases rx
  obtain ⟨t, rfl⟩ := ry
  obtain ⟨mA, J, _⟩ := ins_get I.hok ha
  obtain ⟨od, J, _⟩ := J.look
  obtain ⟨m, hF⟩ := I.fr
  refine PySem.W.ksp_binT hF I.ok.mod.kin J rfl O.first O.at_ O.fn O.ar (.inr ⟨_, rfl⟩) h1 h2 O.sub ?_
  exact wpAny_mono (run_fn (us := [.ref a, .int i t]) (vs := [.ref a, .int i]) F hr hb .nil hx I (.cons rfl (.cons ⟨t, rfl⟩ .nil)) q) (fun _ _ z => cmpBack_of z) fun _ _ z => z
/-- i op x, i an int: the reflected method, F of g -/
theorem op_ownL {id : String} {B : Builtin} (O : OwnOp X.K C f g op) (hfT : fillsNumberSlot (.type "int") op.info.2 = pure true)
    (slot : PySem.Slot "int" (PySem.dunder op.info.2) id) (entry : entryFor table id = some B) (args : ∀ i t x, argsOk id ⟨[Value.int i t, .ref x], []⟩)
    (dec : ∀ (i : Int) (t : Tok) (x : Addr) (ox : Obj) (s : Shared), s.heap.get? x = some ox → (∀ v, ox.data ≠ .prim v) → ∀ (A : Around) (E : Value → Shared → Prop) (R : PySem.Fin → Shared → Prop), R (.done (.ret .notImplemented)) s →
      wpAny (model X.prog X.w) A (B ⟨[Value.int i t, .ref x], []⟩) R E s)
    (F : FnOk X.prog X.w X.K X.mg X.base CX k g fd ps sp) (hr : Room k X.A) (hb : Binds X.K fd ps []) (hx : Passes CX X E) :
    OpR X (binaryOp op) (fun x y H Q => ∃ a i dx fs, x = .int i ∧ y = .ref a ∧ H a = some (.ins C dx fs) ∧ sp [.ref a, .int i] H Q E) := by
  intro pins s σ H x y v u Q I rx ry h
  obtain ⟨a, i, dx, fs, rfl, rfl, ha, q⟩ := h
  obtain ⟨t, rfl⟩ := rx
  cases ry
  obtain ⟨mA, J, _⟩ := ins_get I.hok ha
  have ho := J.obj
  obtain ⟨od, J, _⟩ := J.look
  obtain ⟨m, hF⟩ := I.fr
  refine PLow.rbin hF I.ok.mod.kin J O.first O.at_ O.ar O.fr hfT O.sub' slot entry (args _ _ _) (dec i t a _ s ho (fun v z => by simp [PySem.W.instObj] at z)) ?_
  exact wpAny_mono (run_fn (us := [.ref a, .int i t]) (vs := [.ref a, .int i]) F hr hb .nil hx I (.cons rfl (.cons ⟨t, rfl⟩ .nil)) q) (fun _ _ z => cmpBack_of z) fun _ _ z => z
/-- -x -/
theorem un_own (hs : PySem.W.findIn X.K (.ref C) "__neg__" = some (some (.ref f))) (hf : PySem.W.isFn X.K (.ref f) = true) (F : FnOk X.prog X.w X.K X.mg X.base CX k f fd ps sp) (hr : Room k X.A) (hb : Binds X.K fd ps []) (hx : Passes CX X E) :
    UnR X (unaryOp .USub) (fun x H Q => ∃ a dx fs, x = .ref a ∧ H a = some (.ins C dx fs) ∧ sp [.ref a] H Q E) := by
  intro pins s σ H x v Q I rx h
  obtain ⟨a, dx, fs, rfl, ha, q⟩ := h
  cases rx
  obtain ⟨mA, J, _⟩ := ins_get I.hok ha
  obtain ⟨od, J, _⟩ := J.look
  obtain ⟨m, hF⟩ := I.fr
  refine PySem.W.ksp_neg hF I.ok.mod.kin J hs hf ?_
  exact run_fn (us := [.ref a]) (vs := [.ref a]) F hr hb .nil hx I (.cons rfl .nil) q
/-- abs(x) -/
theorem call_absOwn (hs : PySem.W.findIn X.K (.ref C) "__abs__" = some (some (.ref f))) (hf : PySem.W.isFn X.K (.ref f) = true) (F : FnOk X.prog X.w X.K X.mg X.base CX k f fd ps sp) (hr : Room (k + 1) X.A) (hb : Binds X.K fd ps []) (hx : Passes CX X E) :
    CallR X (.builtin "abs") (fun xs H Q => ∃ a dx fs, xs = [.ref a] ∧ H a = some (.ins C dx fs) ∧ sp [.ref a] H Q E) := by
  intro pins s σ H xs us Q I r h
  obtain ⟨a, dx, fs, rfl, ha, q⟩ := h
  cases r with
  | cons r1 r2 =>
    cases r2
    cases r1
    obtain ⟨mA, J, _⟩ := ins_get I.hok ha
    obtain ⟨od, J, _⟩ := J.look
    obtain ⟨m, hF⟩ := I.fr
    refine PLow.abs_own hF I.ok.mod.kin J hs hf ?_
    have hl := F.len _ _ _ _ q
    have r2 : Vals [V.ref a] [Value.ref a] := .cons rfl .nil
    refine wpAny_call (codeAny_mono (F.run X.A.in1 X.stack s H ⟨[.ref a], []⟩ [.ref a] [.ref a] Q E hr.in1 I.env0.in1 (by
      have := hb s [.ref a] I.kIn (by simpa using hl)
      simpa using this) r2 q) fun r s' hq => ?_)
    cases r with
    | error e => exact hx pins σ H s e s' I hq
    | ok fl =>
      cases fl with
      | ret w => exact I.after hq
      | next => exact False.elim hq
      | brk => exact False.elim hq
      | cont => exact False.elim hq
/-- // by any divisor but 0 below 2 ^ 9000 in size -/
def CDivS (_ j : Int) : Prop := j ≠ 0 ∧ j.natAbs.log2 < 9000
theorem op_fdivS : OpR X (binaryOp .FloorDiv) (rI CDivS fun i j => .int (i.fdiv j)) := opI fun i j _ _ _ _ _ hc q =>
  floordiv_int hc.1 q (.inl (PyProof.noPylong_of_log2 hc.2))
end
end L2

set_option maxHeartbeats 2000000
namespace PLow
open PySem PySem.W PySem.Calls PyProof.Rows
section
variable {prog : Program} {w : World} {A : Around} {E : Value → Shared → Prop} {s : Shared} {K : Frag} {x C L f : Addr} {h₀ : Heap} {m : Str → Option Value} {ox : Obj} {od : Option Obj}
/-- bool(x) by the own method -/
theorem bool_own {Q : Value → Shared → Prop} (F : Fr h₀ L s.heap m) (X₀ : K.In h₀) (I : InstAt s.heap x ox C od) (hs : findIn K (.ref C) "__bool__" = some (some (.ref f))) (hf : isFn K (.ref f) = true)
    (h : wpAny (model prog w) A.in1.in1 (call (.ref f) [.ref x]) (PySem.W.BoolBack fun b s' => Q (.bool b) s') E s) : wpAny (model prog w) A (call (.type "bool") [.ref x]) Q E s := by
  refine callType_newIn (S := fun A R s' => s' = s ∧ wpAny (model prog w) A.in1 (call (.ref f) [.ref x]) (PySem.W.BoolBack fun b s' => R (.ok (.ret (.bool b))) s') (fun e s' => R (.error e) s') s) PySem.F.called_bool PySem.F.newNe_bool (PySem.F.typeCall_bool_1 _) (PySem.F.newCall_bool_1 _)
    (fun obj => PySem.F.args_object_init_2 obj _) PySem.F.entry_bool_new ?_ ⟨rfl, ?_⟩
  · rintro A R s' ⟨rfl, hc⟩
    have tr : ∀ {Q' : Bool → Shared → Prop}, wpAny (model prog w) A.in1 (call (.ref f) [.ref x]) (PySem.W.BoolBack Q') (fun e s' => R (.error e) s') s' → wpAny (model prog w) A.in1 (truthy (.ref x)) Q' (fun e s' => R (.error e) s') s' := fun z => truthy_K F X₀ I hs hf z
    have f1 := PySem.F.conv_sub_bool
    refine wpAny_bind (m := isType _) (wpAny_pure ?_)
    dsimp only
    simp only [Bool.not_true, Bool.false_eq_true, if_false]
    refine wpAny_bind (wpAny_of_eq f1 ?_)
    simp only [Bool.not_true, Bool.false_eq_true, if_false]
    refine wpAny_bind (m := someArgs _ _ _ _) (wpAny_pure ?_)
    dsimp only
    refine wpAny_bind (tr (wpAny_mono hc (fun v s' hv => ?_) fun _ _ z => z))
    cases v <;> first | exact hv.elim | skip
    exact wpAny_pure hv
  · refine wpAny_mono h (fun v s' hv => ?_) fun _ _ z => z
    cases v <;> first | exact hv.elim | skip
    exact ⟨rfl, hv⟩
end
end PLow
namespace L2
open PySem PySem.Spec PyProof.Rows
section
variable {X : Cx} {CX : CXT} {k : Nat} {C f : Addr} {fd : FuncData} {ps : List Str} {sp : Sp} {E : XK} {op : CmpOp}
/-- an own comparison -/
structure OwnC (K : PySem.W.Frag) (C f : Addr) (op : CmpOp) : Prop where
  at_ : PySem.W.findIn K (.ref C) (cmpInfo op).2.1 = some (some (.ref f))
  fn : PySem.W.isFn K (.ref f) = true
  sub : PySem.W.subIn K (.type "int") (.ref C) = some false
theorem rich_own (O : OwnC X.K C f op) (F : FnOk X.prog X.w X.K X.mg X.base CX k f fd ps sp) (hr : Room k X.A) (hb : Binds X.K fd ps []) (hx : Passes CX X E) {pins : List (Addr × Obj)} {s : Shared} {σ : St} {H : Hp} {y : V} {u : Value} {Q : VK} {a dx : Addr} {fs : List (Str × V)}
    (I : Inv X pins σ H s) (ha : H a = some (.ins C dx fs)) (ry : RelV y u) (hy : (∃ i, y = .int i) ∨ ∃ b dy gs, y = .ref b ∧ H b = some (.ins C dy gs)) (q : sp [.ref a, y] H Q E) :
    wpAny (model X.prog X.w) X.A (richCompare op (.ref a) u) (EP X pins σ Q) X.xe s := by
  obtain ⟨mA, J, _⟩ := ins_get I.hok ha
  obtain ⟨od, J, _⟩ := J.look
  obtain ⟨m, hF⟩ := I.fr
  have fin : wpAny (model X.prog X.w) X.A (call (.ref f) [.ref a, u]) (PySem.W.CmpBack (EP X pins σ Q)) X.xe s :=
    wpAny_mono (run_fn (us := [.ref a, u]) (vs := [.ref a, y]) F hr hb .nil hx I (.cons rfl (.cons ry .nil)) q) (fun _ _ z => cmpBack_of z) fun _ _ z => z
  rcases hy with ⟨i, rfl⟩ | ⟨b, dy, gs, rfl, hb'⟩
  · obtain ⟨t, rfl⟩ := ry
    refine PySem.W.cmp_K (op := op) (tb := .type "int") hr.units0 hF I.ok.mod.kin J (PySem.W.Looks.of_pure rfl) ?_ O.at_ O.fn fin
    unfold PySem.W.notFirst
    rw [O.sub]
    simp
  · cases ry
    obtain ⟨mB, J', _⟩ := ins_get I.hok hb'
    obtain ⟨od', J', _⟩ := J'.look
    exact PySem.W.cmp_K (op := op) (tb := .ref C) hr.units0 hF I.ok.mod.kin J J'.type (by simp [PySem.W.notFirst]) O.at_ O.fn fin
def rOwnC (C : Addr) (sp : Sp) (E : XK) : R2 := fun x y H Q => ∃ a dx fs, x = .ref a ∧ H a = some (.ins C dx fs) ∧ ((∃ i, y = .int i) ∨ ∃ b dy gs, y = .ref b ∧ H b = some (.ins C dy gs)) ∧ sp [x, y] H Q E
theorem op_ownC (O : OwnC X.K C f op) (F : FnOk X.prog X.w X.K X.mg X.base CX k f fd ps sp) (hr : Room k X.A) (hb : Binds X.K fd ps []) (hx : Passes CX X E) (hc : ∀ v u, compareOp op v u = richCompare op v u := by intro _ _; rfl) : OpR X (compareOp op) (rOwnC C sp E) := by
  intro pins s σ H x y v u Q I rx ry h
  obtain ⟨a, dx, fs, rfl, ha, hy, q⟩ := h
  cases rx
  rw [hc]
  exact rich_own O F hr hb hx I ha ry hy q
/-- a call of a built-in class whose own method answers, two levels in -/
theorem run_in2 {pins : List (Addr × Obj)} {σ : St} {H : Hp} {s : Shared} {Q : VK} {a : Addr} (F : FnOk X.prog X.w X.K X.mg X.base CX k f fd ps sp) (hr : Room (k + 2) X.A) (hb : Binds X.K fd ps []) (hx : Passes CX X E) (I : Inv X pins σ H s) (q : sp [.ref a] H Q E) :
    wpAny (model X.prog X.w) X.A.in1.in1 (call (.ref f) [.ref a]) (EP X pins σ Q) X.xe s := by
  have hl := F.len _ _ _ _ q
  have r2 : Vals [V.ref a] [Value.ref a] := .cons rfl .nil
  refine wpAny_call (codeAny_mono (F.run X.A.in1.in1 X.stack s H ⟨[.ref a], []⟩ [.ref a] [.ref a] Q E hr.in1.in1 I.env0.in1.in1 (by
    have := hb s [.ref a] I.kIn (by simpa using hl)
    simpa using this) r2 q) fun r s' hq => ?_)
  cases r with
  | error e => exact hx pins σ H s e s' I hq
  | ok fl =>
    cases fl with
    | ret w => exact I.after hq
    | next => exact False.elim hq
    | brk => exact False.elim hq
    | cont => exact False.elim hq
/-- bool(x) -/
theorem call_boolOwn (hs : PySem.W.findIn X.K (.ref C) "__bool__" = some (some (.ref f))) (hf : PySem.W.isFn X.K (.ref f) = true) (F : FnOk X.prog X.w X.K X.mg X.base CX k f fd ps sp) (hr : Room (k + 2) X.A) (hb : Binds X.K fd ps []) (hx : Passes CX X E) :
    CallR X (.type "bool") (fun xs H Q => ∃ a dx fs, xs = [.ref a] ∧ H a = some (.ins C dx fs) ∧ sp [.ref a] H (fun v H' => ∃ b, v = .bl b ∧ Q (.bl b) H') E) := by
  intro pins s σ H xs us Q I r h
  obtain ⟨a, dx, fs, rfl, ha, q⟩ := h
  obtain ⟨u, rfl, ru⟩ := vals1 r
  cases ru
  obtain ⟨mA, J, _⟩ := ins_get I.hok ha
  obtain ⟨od, J, _⟩ := J.look
  obtain ⟨m, hF⟩ := I.fr
  refine PLow.bool_own hF I.ok.mod.kin J hs hf (wpAny_mono (run_in2 F hr hb hx I q) (fun u s' z => ?_) fun _ _ z => z)
  obtain ⟨v, H', I', rv, b, rfl, q'⟩ := z
  cases rv
  exact ⟨.bl b, H', I', rfl, q'⟩
/-- str(x) -/
theorem call_strOwn (hs : PySem.W.findIn X.K (.ref C) "__str__" = some (some (.ref f))) (hf : PySem.W.isFn X.K (.ref f) = true) (F : FnOk X.prog X.w X.K X.mg X.base CX k f fd ps sp) (hr : Room (k + 2) X.A) (hb : Binds X.K fd ps []) (hx : Passes CX X E) :
    CallR X (.type "str") (fun xs H Q => ∃ a dx fs, xs = [.ref a] ∧ H a = some (.ins C dx fs) ∧ sp [.ref a] H (fun v H' => ∃ b, v = .str b ∧ Q (.str b) H') E) := by
  intro pins s σ H xs us Q I r h
  obtain ⟨a, dx, fs, rfl, ha, q⟩ := h
  obtain ⟨u, rfl, ru⟩ := vals1 r
  cases ru
  obtain ⟨mA, J, _⟩ := ins_get I.hok ha
  obtain ⟨od, J, _⟩ := J.look
  have hu := hr.units
  refine PySem.W.kso_call (by show X.A.units + 1 + 1 < cLine; omega) I.kIn J hs hf (wpAny_mono (run_in2 F hr hb hx I q) (fun u s' z => ?_) fun _ _ z => z)
  obtain ⟨v, H', I', rv, b, rfl, q'⟩ := z
  obtain ⟨t, rfl⟩ := rv
  exact ⟨.str b, H', I', ⟨t, rfl⟩, q'⟩
end
end L2

set_option maxHeartbeats 4000000
namespace L2
open PySem PySem.Spec PyProof.Rows
/-! ### static methods -/
theorem entry_sm : entryFor table "staticmethod.__get__" = some Builtin.«staticmethod.__get__» := entryFor_of_tree rfl
theorem args_sm (a b c : Value) : argsOk "staticmethod.__get__" { pos := [a, b, c] } := rfl
theorem slot_sm : Slot "staticmethod" (Str.ofString "__get__") "staticmethod.__get__" := by
  refine Slot.of (owner := "staticmethod") (n := "__get__") ?_ ?_ ?_ ?_ ?_ ?_
  · rw [typeLookup_type, builtinLookup_eq_fast]
    rfl
  · decide +kernel
  · decide +kernel
  · decide +kernel
  · left; decide +kernel
  · rw [isSubtype_type]
    rfl
theorem sm_get {prog : Program} {w : World} {A : Around} {s : Shared} {K : PySem.W.Frag} {p C : Addr} {R : Result → Shared → Prop} {f obj : Value} {rest : List Value} (h : K.In s.heap) (hr : PySem.W.recIn K p "staticmethod" = some (f :: rest)) (k : R (.ok (.ret f)) s) :
    codeAny (model prog w) A (.call (.builtin "staticmethod.__get__") { pos := [.ref p, obj, .ref C] }) R s := by
  obtain ⟨d, sl, e⟩ := PySem.W.rec_of h hr
  refine codeAny_call_builtin slot_sm.plain entry_sm (slot_sm.check _ _ _ _ _ _ _ _ ⟨_, e, rfl⟩ (args_sm _ _ _) ?_)
  show wpAny _ _ (Builtin.«staticmethod.__get__» { pos := [.ref p, obj, .ref C] }) _ _ s
  unfold Builtin.«staticmethod.__get__»
  rw [PySem.W.dga_cls]
  refine wpAny_bind (PySem.W.nd_pure ?_)
  refine wpAny_bind ?_
  unfold field
  refine wpAny_bind ?_
  unfold fieldsOf
  refine wpAny_bind (PySem.W.nd_load e ?_)
  refine PySem.W.nd_pure ?_
  refine wpAny_pure ?_
  have e0 : (f :: rest).toArray[0]? = some f := by simp
  rw [e0]
  refine wpAny_pure ?_
  unfold ret
  refine wpAny_pure ?_
  exact k
structure SMet (K : PySem.W.Frag) (C : Addr) (mc : Value) (m : Str) (p g : Addr) : Prop where
  at_ : PySem.W.findCls K (.ref C) mc m = some (.get (.builtin "staticmethod.__get__") (.ref p) .none (.ref C))
  rc : ∃ rest, PySem.W.recIn K p "staticmethod" = some (.ref g :: rest)
  hi : PySem.W.handedIn (.ref g) = true
theorem getsm_ok {X : Cx} {pins : List (Addr × Obj)} {σ : L2.St} {H : Hp} {s : Shared} {C p g : Addr} {mc : Value} {m : Str} {A : Around} {E : Value → Shared → Prop} {b : Bool} {Q : Value → Shared → Prop}
    (I : L2.Inv X pins σ H s) (r : ClX.CRead X.K C mc) (c : SMet X.K C mc m p g) (k : ∀ s', L2.Inv X pins σ H s' → Q (.ref g) s') : wpAny (model X.prog X.w) A (getAttr (.ref C) m b) Q E s := by
  obtain ⟨rest, hr⟩ := c.rc
  exact PySem.W.cls_bind I.kIn r.rd c.at_ (wpAny_call (sm_get I.kIn hr (PySem.W.handed_on c.hi (k _ (I.tok _)))))
theorem getmethsm_ok {X : Cx} {pins : List (Addr × Obj)} {σ : L2.St} {H : Hp} {s : Shared} {C p g : Addr} {mc : Value} {m : Str} {A : Around} {E : Value → Shared → Prop} {pl : Sem Bool} {Q : Value × List Value → Shared → Prop}
    (I : L2.Inv X pins σ H s) (r : ClX.CRead X.K C mc) (c : SMet X.K C mc m p g) (k : ∀ s', L2.Inv X pins σ H s' → Q (.ref g, []) s') : wpAny (model X.prog X.w) A (getMethod (.ref C) m pl) Q E s :=
  PySem.W.method_cls I.kIn r.ga (getsm_ok I r c k)
def tSMeth (C : Addr) (sp : Sp) (E : XK) (ta : TE) (t : TA) : TE := fun σ H Q => ta σ H fun x H1 => x = .ref C ∧ t σ H1 fun vs H2 => sp vs H2 Q E
theorem pe_smeth {X : Cx} {CX : CXT} {k : Nat} {C p g : Addr} {fd : FuncData} {ps : List Str} {mc : Value} {sp : Sp} {E : XK} {o e : PySem.Expr} {es : List PySem.Expr} {m : Str} {pos apos : Pos} {ta : TE} {t : TA} {pl : Sem Bool}
    (ho : PE X o ta) (r : ClX.CRead X.K C mc) (c : SMet X.K C mc m p g) (F : FnOk X.prog X.w X.K X.mg X.base CX k g fd ps sp) (hr : Room k X.A) (kp : PySem.W.keepIn X.K (.ref g) = true) (hb : Binds X.K fd ps []) (hx : Passes CX X E) (ha : PA X (e :: es) t)
    (hs : starEach (e :: es) X.env = (false, eval e X.env) :: starEach es X.env := by rfl) (hpl : ((backTo pos (starEach es X.env)).any fun x => x.fst) = false := by rfl)
    (he : eval ((o.Attribute m apos).Call (e :: es) [] pos) X.env = (do
      let ov ← eval o X.env
      standAt apos.atName
      let __x ← holding [ov] (getMethod ov m pl)
      match __x with
      | (f, first) => callWith pos f first (backTo pos (starEach (e :: es) X.env)) (backToKw pos (keywordEach [] X.env))) := by rfl) :
    PE X ((o.Attribute m apos).Call (e :: es) [] pos) (tSMeth C sp E ta t) := by
  refine ⟨fun pins s σ H Q I h => PySem.W.methodCall_KW (pl := pl) (thn (ho.run pins s σ H _ I h) fun v s1 q => ?_) he⟩
  obtain ⟨x, H1, I1, rx, rfl, q⟩ := q
  cases rx
  refine getmethsm_ok I1 r c fun s2 I2 => ?_
  refine PySem.W.callWith_K I2.ok.mod.kin kp (thn (ha.run pos pins s2 σ H1 _ I2 q) fun us s3 q3 => ?_) hs hpl
  obtain ⟨vs, H3, I3, rv, q3⟩ := q3
  exact ⟨I3.kIn, run_fn F hr hb .nil hx I3 rv (by simpa using q3)⟩
end L2

set_option maxHeartbeats 4000000
namespace L2
open PySem PySem.Spec PyProof.Rows
/-- a static method, called where an except suite reads the slots -/
def tSMethS (C : Addr) (sp : Sp) (E : St → XK) (ta : TE) (t : TA) : TE := fun σ H Q => ta σ H fun x H1 => x = .ref C ∧ t σ H1 fun vs H2 => sp vs H2 Q (E σ)
theorem pe_smethS {X : Cx} {CX : CXT} {k : Nat} {C p g : Addr} {fd : FuncData} {ps : List Str} {mc : Value} {sp : Sp} {E : St → XK} {o e : PySem.Expr} {es : List PySem.Expr} {m : Str} {pos apos : Pos} {ta : TE} {t : TA} {pl : Sem Bool}
    (ho : PE X o ta) (r : ClX.CRead X.K C mc) (c : SMet X.K C mc m p g) (F : FnOk X.prog X.w X.K X.mg X.base CX k g fd ps sp) (hr : Room k X.A) (kp : PySem.W.keepIn X.K (.ref g) = true) (hb : Binds X.K fd ps []) (hx : ∀ σ, PassesAt CX X σ (E σ)) (ha : PA X (e :: es) t)
    (hs : starEach (e :: es) X.env = (false, eval e X.env) :: starEach es X.env := by rfl) (hpl : ((backTo pos (starEach es X.env)).any fun x => x.fst) = false := by rfl)
    (he : eval ((o.Attribute m apos).Call (e :: es) [] pos) X.env = (do
      let ov ← eval o X.env
      standAt apos.atName
      let __x ← holding [ov] (getMethod ov m pl)
      match __x with
      | (f, first) => callWith pos f first (backTo pos (starEach (e :: es) X.env)) (backToKw pos (keywordEach [] X.env))) := by rfl) :
    PE X ((o.Attribute m apos).Call (e :: es) [] pos) (tSMethS C sp E ta t) := by
  refine ⟨fun pins s σ H Q I h => PySem.W.methodCall_KW (pl := pl) (thn (ho.run pins s σ H _ I h) fun v s1 q => ?_) he⟩
  obtain ⟨x, H1, I1, rx, rfl, q⟩ := q
  cases rx
  refine getmethsm_ok I1 r c fun s2 I2 => ?_
  refine PySem.W.callWith_K I2.ok.mod.kin kp (thn (ha.run pos pins s2 σ H1 _ I2 q) fun us s3 q3 => ?_) hs hpl
  obtain ⟨vs, H3, I3, rv, q3⟩ := q3
  exact ⟨I3.kIn, run_fnS F hr hb (hx σ) I3 rv q3⟩
end L2

set_option maxHeartbeats 4000000
namespace L2
open PySem PySem.Spec PyProof.Rows
/-- d.get(x) of a written dict with texts as keys: the entries as they are, or None -/
def KGet (K : PySem.W.Frag) (w : World) (a : Addr) (x : Str) (v : V) : Prop := ∃ es n u,
  K.lookup a = some { cls := .type "dict", data := .dict es n } ∧ PySem.W.KeysLit w.params es.toList ∧ (a == sysModules) = false ∧ PySem.W.nsIn K a x = some u ∧ RelV v (u.getD .none)
def tKGet (K : PySem.W.Frag) (w : World) (to te : TE) : TE := fun σ H Q => to σ H fun x H1 => ∃ a, x = .ref a ∧ (∃ y v, KGet K w a y v) ∧ te σ H1 fun y H2 => ∃ z v, y = .str z ∧ KGet K w a z v ∧ Q v H2
theorem pe_kget {X : Cx} {o e : PySem.Expr} {to te : TE} {apos cpos : Pos} (ho : PE X o to) (he : PE X e te)
    (h1 : attributeBase o "get" X.env (eval o X.env) = eval o X.env := by rfl)
    (h2 : ((((backTo cpos (starEach [e] X.env)).all fun x => !x.1) && (backToKw cpos (keywordEach [] X.env)).all fun x => x.1.isSome) && decide (([e].length + ([] : List Keyword).length + if ([] : List Keyword).isEmpty = true then 0 else 1) < 30)) = true := by rfl)
    (h3 : (apos.endLine == cpos.line) = true := by rfl)
    (h4 : backTo cpos (starEach [e] X.env) = [(false, eval e X.env)] := by rfl) :
    PE X ((o.Attribute "get" apos).Call [e] [] cpos) (tKGet X.K X.w to te) := by
  refine ⟨fun pins s σ H Q I h => wpAny_Call_method_late h1 h2 h3 h4 (thn (ho.run pins s σ H _ I h) fun v s1 q => ?_)⟩
  obtain ⟨x, H1, I1, rx, a, rfl, ⟨y0, v0, es0, n0, u0, hl0, hk0, hs0, _⟩, q⟩ := q
  cases rx
  have hm0 := PySem.W.mapOf_K (prog := X.prog) (w := X.w) I1.kIn hl0 hk0
  refine ⟨"dict", "dict.get", PySem.F.plainAttrs_dict, PySem.F.slot_dict_get, PySem.F.type_dict_get, ?_, ?_, ?_⟩
  · exact hm0.typeIs
  · intro b hb
    cases hb
    exact ⟨_, I1.kIn _ _ hl0, rfl⟩
  · refine wpAny_dict_get1 (knd := strKind X.prog X.w) hs0 (thn (he.run pins s1 σ H1 _ I1 q) fun key s2 q2 => ?_)
    obtain ⟨yv, H2, I2, ry, z, v, rfl, ⟨es, n, u, hl, hk, _, hn, rv⟩, q2⟩ := q2
    obtain ⟨t, rfl⟩ := ry
    refine ⟨z, _, strKind_is _ _ _ _, PySem.W.mapOf_K I2.kIn hl hk, ?_⟩
    rw [PySem.W.find_K hl hn]
    exact ⟨v, H2, I2.tok _, rv, q2⟩
end L2

set_option maxHeartbeats 2000000
/-! a written dict of ints -/
namespace L2
open PySem PySem.Spec PyProof.Rows
/-- the entries of {1: 1, 4: 2, 9: 3, 16: 4} -/
def esM (x1 x2 x3 x4 y1 y2 y3 y4 : Tok) : Array DictEntry := #[⟨1, .int 1 x1, .int 1 y1⟩, ⟨4, .int 4 x2, .int 2 y2⟩, ⟨9, .int 9 x3, .int 3 y3⟩, ⟨16, .int 16 x4, .int 4 y4⟩]
structure KMarks (K : PySem.W.Frag) (d : Addr) : Prop where
  at_ : ∃ x1 x2 x3 x4 y1 y2 y3 y4 n, K.lookup d = some ⟨.type "dict", none, .dict (esM x1 x2 x3 x4 y1 y2 y3 y4) n, #[]⟩
  low : (d == sysModules) = false
/-- 1, 4, 9, 16 by their roots -/
inductive Root : Int → Int → Prop where
  | r1 : Root 1 1
  | r2 : Root 4 2
  | r3 : Root 9 3
  | r4 : Root 16 4
theorem root_find {k v : Int} (r : Root k v) (x1 x2 x3 x4 y1 y2 y3 y4 : Tok) : ∃ t, findBy Value.isInt (esM x1 x2 x3 x4 y1 y2 y3 y4) k = some (.int v t) := by
  cases r
  · exact ⟨y1, rfl⟩
  · exact ⟨y2, rfl⟩
  · exact ⟨y3, rfl⟩
  · exact ⟨y4, rfl⟩
section
variable {X : Cx} {d : Addr}
theorem KMarks.map (D : KMarks X.K d) {pins : List (Addr × Obj)} {σ : St} {H : Hp} {s : Shared} (I : Inv X pins σ H s) : ∃ x1 x2 x3 x4 y1 y2 y3 y4, s.heap.MapOf (PySem.intKind X.prog X.w) d (fun k => findBy Value.isInt (esM x1 x2 x3 x4 y1 y2 y3 y4) k) := by
  obtain ⟨x1, x2, x3, x4, y1, y2, y3, y4, n, e⟩ := D.at_
  refine ⟨x1, x2, x3, x4, y1, y2, y3, y4, _, _, n, I.kIn _ _ e, ⟨rfl, rfl, rfl⟩, rfl, ?_, fun _ => rfl⟩
  intro en hen
  have hm : en ∈ (esM x1 x2 x3 x4 y1 y2 y3 y4).toList := Array.mem_toList_iff.mpr hen
  rcases List.mem_cons.mp hm with rfl | hm
  · exact ⟨1, by simp [PySem.intKind, Value.isInt], (by show (1 : Int) = hashInt 1; decide +kernel)⟩
  rcases List.mem_cons.mp hm with rfl | hm
  · exact ⟨4, by simp [PySem.intKind, Value.isInt], (by show (4 : Int) = hashInt 4; decide +kernel)⟩
  rcases List.mem_cons.mp hm with rfl | hm
  · exact ⟨9, by simp [PySem.intKind, Value.isInt], (by show (9 : Int) = hashInt 9; decide +kernel)⟩
  rcases List.mem_cons.mp hm with rfl | hm
  · exact ⟨16, by simp [PySem.intKind, Value.isInt], (by show (16 : Int) = hashInt 16; decide +kernel)⟩
  cases hm
theorem op_notIn_km (D : KMarks X.K d) : OpR X (compareOp .NotIn) (fun x y H Q => ∃ k v, x = .int k ∧ y = .ref d ∧ Root k v ∧ Q (.bl false) H) := by
  intro pins s σ H x y v u Q I rx ry h
  obtain ⟨k, r, rfl, rfl, hr, q⟩ := h
  obtain ⟨t, rfl⟩ := rx
  cases ry
  obtain ⟨x1, x2, x3, x4, y1, y2, y3, y4, hm⟩ := D.map I
  obtain ⟨tk, ef⟩ := root_find hr x1 x2 x3 x4 y1 y2 y3 y4
  refine wpAny_notIn_of (k := k) (by simp [PySem.intKind, Value.isInt]) D.low hm ?_
  rw [ef]
  exact ⟨.bl false, H, I.tok _, rfl, q⟩
theorem ix_km (D : KMarks X.K d) : IxR X (fun x y H Q => ∃ k v, x = .ref d ∧ y = .int k ∧ Root k v ∧ Q (.int v) H) := by
  intro value slice pins s σ H x y v u Q I rx ry h hs
  obtain ⟨k, r, rfl, rfl, hr, q⟩ := h
  obtain rfl : v = Value.ref d := rx
  obtain ⟨t, rfl⟩ := ry
  obtain ⟨x1, x2, x3, x4, y1, y2, y3, y4, hm⟩ := D.map I
  obtain ⟨tk, ef⟩ := root_find hr x1 x2 x3 x4 y1 y2 y3 y4
  exact tail_any hm.typeIs slot_dict_getitem.lookup (wpAny_getItem_of (k := k) (by simp [PySem.intKind, Value.isInt]) hm ef ⟨.int r, H, I.tok _, ⟨tk, rfl⟩, q⟩) hs
/-- the four keys -/
def isRt (k : Int) : Bool := decide (k = 1) || decide (k = 4) || decide (k = 9) || decide (k = 16)
theorem isRt_root {k : Int} (h : isRt k = true) : ∃ v, Root k v := by
  unfold isRt at h
  simp only [Bool.or_eq_true, decide_eq_true_eq] at h
  rcases h with ((rfl | rfl) | rfl) | rfl
  · exact ⟨_, .r1⟩
  · exact ⟨_, .r2⟩
  · exact ⟨_, .r3⟩
  · exact ⟨_, .r4⟩
theorem root_not {k : Int} (h : isRt k = false) (x1 x2 x3 x4 y1 y2 y3 y4 : Tok) : findBy Value.isInt (esM x1 x2 x3 x4 y1 y2 y3 y4) k = none := by
  unfold isRt at h
  simp only [Bool.or_eq_false_iff, decide_eq_false_iff_not] at h
  obtain ⟨⟨⟨h1, h4⟩, h9⟩, h16⟩ := h
  unfold findBy
  rw [Option.map_eq_none_iff, Array.find?_eq_none]
  intro e he
  have hm : e ∈ (esM x1 x2 x3 x4 y1 y2 y3 y4).toList := Array.mem_toList_iff.mpr he
  rcases List.mem_cons.mp hm with rfl | hm
  · simp [Value.isInt, Ne.symm h1]
  rcases List.mem_cons.mp hm with rfl | hm
  · simp [Value.isInt, Ne.symm h4]
  rcases List.mem_cons.mp hm with rfl | hm
  · simp [Value.isInt, Ne.symm h9]
  rcases List.mem_cons.mp hm with rfl | hm
  · simp [Value.isInt, Ne.symm h16]
  cases hm
theorem op_notIn_kx (D : KMarks X.K d) : OpR X (compareOp .NotIn) (fun x y H Q => ∃ k, x = .int k ∧ y = .ref d ∧ Q (.bl (!isRt k)) H) := by
  intro pins s σ H x y v u Q I rx ry h
  obtain ⟨k, rfl, rfl, q⟩ := h
  obtain ⟨t, rfl⟩ := rx
  cases ry
  obtain ⟨x1, x2, x3, x4, y1, y2, y3, y4, hm⟩ := D.map I
  cases e : isRt k with
  | true =>
    obtain ⟨r, hr⟩ := isRt_root e
    obtain ⟨tk, ef⟩ := root_find hr x1 x2 x3 x4 y1 y2 y3 y4
    refine wpAny_notIn_of (k := k) (by simp [PySem.intKind, Value.isInt]) D.low hm ?_
    rw [ef]
    rw [e] at q
    exact ⟨.bl false, H, I.tok _, rfl, q⟩
  | false =>
    refine wpAny_notIn_of (k := k) (by simp [PySem.intKind, Value.isInt]) D.low hm ?_
    rw [root_not e]
    rw [e] at q
    exact ⟨.bl true, H, I.tok _, rfl, q⟩
end
/-! len(x) by the own method -/
section
variable {X : Cx} {CX : CXT} {k : Nat} {C f : Addr} {fd : FuncData} {ps : List Str} {sp : Sp} {E : XK}
theorem call_lenOwn (hs : PySem.W.findIn X.K (.ref C) "__len__" = some (some (.ref f))) (hf : PySem.W.isFn X.K (.ref f) = true) (F : FnOk X.prog X.w X.K X.mg X.base CX k f fd ps sp) (hr : Room (k + 1) X.A) (hb : Binds X.K fd ps []) (hx : Passes CX X E) :
    CallR X (.builtin "len") (fun xs H Q => ∃ a dx fs, xs = [.ref a] ∧ H a = some (.ins C dx fs) ∧ sp [.ref a] H (fun v H' => ∃ n : Nat, v = .int n ∧ n ≤ 1000 ∧ Q (.int n) H') E) := by
  intro pins s σ H xs us Q I r h
  obtain ⟨a, dx, fs, rfl, ha, q⟩ := h
  obtain ⟨u, rfl, ru⟩ := vals1 r
  cases ru
  obtain ⟨mA, J, _⟩ := ins_get I.hok ha
  obtain ⟨od, J, _⟩ := J.look
  obtain ⟨m, hF⟩ := I.fr
  refine PySem.W.len_K hF I.ok.mod.kin J hs hf ?_
  have hl := F.len _ _ _ _ q
  have r2 : Vals [V.ref a] [Value.ref a] := .cons rfl .nil
  refine wpAny_call (codeAny_mono (F.run X.A.in1 X.stack s H ⟨[.ref a], []⟩ [.ref a] [.ref a] _ E hr.in1 I.env0.in1 (by
    have := hb s [.ref a] I.kIn (by simpa using hl)
    simpa using this) r2 q) fun r s' hq => ?_)
  cases r with
  | error e => exact hx pins σ H s e s' I hq
  | ok fl =>
    cases fl with
    | ret w =>
      obtain ⟨v, H', I', rv, n, rfl, hn, q'⟩ := I.after hq
      obtain ⟨t, rfl⟩ := rv
      exact ⟨⟨by omega, by omega⟩, .int n, H', I'.tok _, ⟨_, rfl⟩, q'⟩
    | next => exact False.elim hq
    | brk => exact False.elim hq
    | cont => exact False.elim hq
end
end L2

set_option maxHeartbeats 4000000
namespace PA
open PySem L2 RZ
open C8 (pss_cut tCut)
def top (i : Nat) : Stmt := PySem.Challenge.pw_pairahead_k07_rule_texts_refused.main.body.getD i (.Pass ⟨0, 0, 0, 0⟩)
abbrev sIsInt : Stmt := top 7
abbrev sBelow : Stmt := top 8
abbrev sInit : Stmt := inClass (top 30) 0
abbrev sReadSt : Stmt := top 10
abbrev sReadRow : Stmt := top 34
abbrev sRead : Stmt := inClass (top 30) 1
abbrev sDraw : Stmt := top 39
abbrev sStart : Stmt := top 40
abbrev sPick : Stmt := top 41
abbrev sSame : Stmt := top 42
abbrev sTable : Stmt := top 43
abbrev sText : Stmt := top 44
abbrev sNumber : Stmt := top 45
abbrev sReading : Stmt := top 46
abbrev sChanged : Stmt := top 47
abbrev sLongest : Stmt := top 48
abbrev sLaw : Stmt := top 49
abbrev sCheck : Stmt := top 32
abbrev sIsRow : Stmt := top 33
/-! ### cells: what stands in a table, right or wrong -/
inductive Cell (H : Hp) : V → Prop
  | int (i : Int) : Cell H (.int i)
  | bl (b : Bool) : Cell H (.bl b)
  | non : Cell H .non
  | str (s : Str) : Cell H (.str s)
  | tup {a : Addr} {xs : List V} (h : H a = some (.tup xs)) : Cell H (.ref a)
  | lst {a : Addr} {xs : List V} (h : H a = some (.lst xs)) : Cell H (.ref a)
/-- tuples stay, lists stay lists -/
def Kin (H H' : Hp) : Prop := ∀ c, (∀ xs, H c = some (.tup xs) → H' c = some (.tup xs)) ∧ ∀ xs, H c = some (.lst xs) → ∃ ys, H' c = some (.lst ys)
theorem Kin.refl (H : Hp) : Kin H H := fun c => ⟨fun _ h => h, fun xs h => ⟨xs, h⟩⟩
theorem Kin.trans {H H1 H2 : Hp} (h : Kin H H1) (h' : Kin H1 H2) : Kin H H2 := fun c => ⟨fun xs e => (h' c).1 xs ((h c).1 xs e), fun xs e => by
  obtain ⟨ys, q⟩ := (h c).2 xs e
  exact (h' c).2 ys q⟩
theorem Kin.same {H H' : Hp} (s : Same H H') : Kin H H' := fun c => ⟨fun xs e => s _ _ e, fun xs e => ⟨xs, s _ _ e⟩⟩
theorem Kin.lst {H : Hp} {p : Addr} {xs ys : List V} (h : H p = some (.lst xs)) : Kin H (upd H p (.lst ys)) := fun c => by
  by_cases e : c = p
  · subst e
    exact ⟨fun zs q => (by rw [h] at q; cases q), fun zs q => ⟨ys, upd_same⟩⟩
  · rw [upd_ne e]
    exact ⟨fun zs q => q, fun zs q => ⟨zs, q⟩⟩
theorem Kin.ins {H H' : Hp} {p C dx : Addr} {fs : List (Str × V)} (hp : H p = some (.ins C dx fs)) (kp : ∀ c o, H c = some o → c ≠ p → H' c = some o) : Kin H H' := fun c => by
  refine ⟨fun xs e => kp _ _ e ?_, fun xs e => ⟨xs, kp _ _ e ?_⟩⟩
  · rintro rfl; rw [hp] at e; cases e
  · rintro rfl; rw [hp] at e; cases e
theorem Cell.kin {H H' : Hp} {v : V} (c : Cell H v) (k : Kin H H') : Cell H' v := by
  cases c with
  | int i => exact .int i
  | bl b => exact .bl b
  | non => exact .non
  | str s => exact .str s
  | tup h => exact .tup ((k _).1 _ h)
  | lst h => obtain ⟨ys, q⟩ := (k _).2 _ h; exact .lst q
def isI : V → Bool
  | .int _ => true
  | _ => false
def isB : V → Bool
  | .bl _ => true
  | _ => false
def below (n : Nat) : V → Bool
  | .int i => decide (0 ≤ i) && decide (i < (n : Int))
  | _ => false
def rowOk (n : Nat) : List V → Bool
  | [a, f, b, g] => below n a && below n b && (isB f && isB g)
  | _ => false
def tabOk (rows : List (List V)) (starts : List V) : Bool :=
  (decide (1 ≤ rows.length) && decide (rows.length ≤ 48)) && rows.all (rowOk rows.length) && isRt (starts.length : Int) && starts.all (below rows.length)
theorem Cell.ty {K : PySem.W.Frag} {H : Hp} {v : V} (c : Cell H v) : ∃ t, TyX K H v (.type t) ∧ PySem.W.kitOne K (.type t) (.type "int") = some (isI v || isB v) ∧ PySem.W.kitOne K (.type t) (.type "bool") = some (isB v) := by
  cases c with
  | int i => exact ⟨"int", .base (.int i), kit_ty (b := "int") (r := true) (by decide +kernel), kit_ty (b := "bool") (r := false) (by decide +kernel)⟩
  | bl b => exact ⟨"bool", .base (.bl b), kit_ty (b := "int") (r := true) (by decide +kernel), kit_ty (b := "bool") (r := true) (by decide +kernel)⟩
  | non => exact ⟨"NoneType", .base .non, kit_ty (b := "int") (r := false) (by decide +kernel), kit_ty (b := "bool") (r := false) (by decide +kernel)⟩
  | str s => exact ⟨"str", .base (.str s), kit_ty (b := "int") (r := false) (by decide +kernel), kit_ty (b := "bool") (r := false) (by decide +kernel)⟩
  | tup h => exact ⟨"tuple", .base (.tup h), kit_ty (b := "int") (r := false) (by decide +kernel), kit_ty (b := "bool") (r := false) (by decide +kernel)⟩
  | lst h => exact ⟨"list", .base (.lst h), kit_ty (b := "int") (r := false) (by decide +kernel), kit_ty (b := "bool") (r := false) (by decide +kernel)⟩
/-! ### data -/
abbrev Rw := Int × Bool × Int × Bool
def rv (r : Rw) : List V := [.int r.1, .bl r.2.1, .int r.2.2.1, .bl r.2.2.2]
def RwOk (n : Nat) (r : Rw) : Prop := (0 ≤ r.1 ∧ r.1 < n) ∧ 0 ≤ r.2.2.1 ∧ r.2.2.1 < n
/-- what stands at each place of a list of references -/
def Each (H : Hp) (P : Hp → Addr → Rw → Prop) (xs : List V) (rows : List Rw) : Prop := xs.length = rows.length ∧ ∀ (i : Nat) (x : V) (r : Rw), xs[i]? = some x → rows[i]? = some r → ∃ c, x = .ref c ∧ P H c r
def isT (H : Hp) (c : Addr) (r : Rw) : Prop := H c = some (.tup (rv r))
def isLT (H : Hp) (c : Addr) (r : Rw) : Prop := H c = some (.tup (rv r)) ∨ H c = some (.lst (rv r))
theorem Each.imp {H H' : Hp} {P P' : Hp → Addr → Rw → Prop} {xs : List V} {rows : List Rw} (e : Each H P xs rows) (f : ∀ c r, P H c r → P' H' c r) : Each H' P' xs rows := ⟨e.1, fun i x r h1 h2 => let ⟨c, hx, q⟩ := e.2 i x r h1 h2; ⟨c, hx, f c r q⟩⟩
theorem Each.sameT {H H' : Hp} {xs : List V} {rows : List Rw} (e : Each H isT xs rows) (s : Same H H') : Each H' isT xs rows := e.imp fun c r q => s _ _ q
theorem Each.sameLT {H H' : Hp} {xs : List V} {rows : List Rw} (e : Each H isLT xs rows) (s : Same H H') : Each H' isLT xs rows := e.imp fun c r q => q.elim (fun q => .inl (s _ _ q)) fun q => .inr (s _ _ q)
theorem Each.nil {H : Hp} {P : Hp → Addr → Rw → Prop} : Each H P [] [] := ⟨rfl, fun i x r h _ => by simp at h⟩
theorem Each.push {H : Hp} {P : Hp → Addr → Rw → Prop} {xs : List V} {rows : List Rw} {c : Addr} {r : Rw} (e : Each H P xs rows) (q : P H c r) : Each H P (xs ++ [.ref c]) (rows ++ [r]) := by
  refine ⟨by rw [List.length_append, List.length_append, e.1]; rfl, fun i x r' h1 h2 => ?_⟩
  rcases Nat.lt_or_ge i xs.length with hi | hi
  · rw [List.getElem?_append_left hi] at h1
    rw [List.getElem?_append_left (by rw [← e.1]; exact hi)] at h2
    exact e.2 i x r' h1 h2
  · rw [List.getElem?_append_right hi] at h1
    rw [List.getElem?_append_right (by rw [← e.1]; exact hi), ← e.1] at h2
    cases hk : i - xs.length with
    | zero =>
      rw [hk] at h1 h2
      have h1' : V.ref c = x := by simpa using h1
      have h2' : r = r' := by simpa using h2
      exact ⟨c, h1'.symm, h2' ▸ q⟩
    | succ k =>
      rw [hk] at h1
      simp at h1
/-- a list is changed: tuples stay -/
theorem isT.lst {H : Hp} {c D : Addr} {r : Rw} {xs ys : List V} (q : isT H c r) (hD : H D = some (.lst xs)) : isT (upd H D (.lst ys)) c r := by
  unfold isT
  rw [upd_ne (ne_of (H := H) q hD (by intro z; cases z))]
  exact q
def rf (R S : Addr) (k : Int) : List (Str × V) := putF "marks" (.int k) (putF "starts" (.ref S) (putF "rows" (.ref R) []))
theorem rs_ : ¬ (("rows" : Str) = "starts") := by decide +kernel
theorem rm_ : ¬ (("rows" : Str) = "marks") := by decide +kernel
theorem sm_ : ¬ (("starts" : Str) = "marks") := by decide +kernel
theorem rf_rows (R S : Addr) (k : Int) : (rf R S k).lookup ("rows" : Str) = some (.ref R) := by
  unfold rf
  rw [lookup_putF, if_neg rm_, lookup_putF, if_neg rs_, lookup_putF, if_pos rfl]
theorem rf_starts (R S : Addr) (k : Int) : (rf R S k).lookup ("starts" : Str) = some (.ref S) := by
  unfold rf
  rw [lookup_putF, if_neg sm_, lookup_putF, if_pos rfl]
theorem rf_marks (R S : Addr) (k : Int) : (rf R S k).lookup ("marks" : Str) = some (.int k) := by
  unfold rf
  rw [lookup_putF, if_pos rfl]
theorem rf_no (R S : Addr) (k : Int) {m : Str} (h1 : ¬ m = "marks") (h2 : ¬ m = "starts") (h3 : ¬ m = "rows") : (rf R S k).lookup m = none := by
  unfold rf
  rw [lookup_putF, if_neg h1, lookup_putF, if_neg h2, lookup_putF, if_neg h3]
  all_goals rfl
/-- a Rule stands at p -/
def RuleAt (K : PySem.W.Frag) (C : Addr) (H : Hp) (p : Addr) (rows : List Rw) (starts : List Int) (k : Int) : Prop := ∃ dx R S refs, H p = some (.ins C dx (rf R S k)) ∧ H R = some (.tup refs) ∧ Each H isT refs rows ∧ SqT K H S (starts.map V.int)
theorem SqT.up {K : PySem.W.Frag} {H H' : Hp} {a : Addr} {xs : List V} (h : SqT K H a xs) (e : Same H H') : SqT K H' a xs :=
  h.elim (fun h => .inl (h.elim (fun h => .inl (e _ _ h)) fun ⟨o, h⟩ => .inr ⟨o, e _ _ h⟩)) fun h => .inr h
theorem RuleAt.same {K : PySem.W.Frag} {C : Addr} {H H' : Hp} {p : Addr} {rows : List Rw} {starts : List Int} {k : Int} (r : RuleAt K C H p rows starts k) (s : Same H H') : RuleAt K C H' p rows starts k := by
  obtain ⟨dx, R, S, refs, h1, h2, h3, h4⟩ := r
  exact ⟨dx, R, S, refs, s _ _ h1, s _ _ h2, h3.sameT s, SqT.up h4 s⟩
theorem Same.new {H : Hp} {p : Addr} {o : HO} (hp : H p = none) : Same H (upd H p o) := new_ hp
structure Txt (K : PySem.W.Frag) (mg : Str → Option Value) (C : Addr) : Prop where
  cl : Cls K C
  nR : NoAttr K C "rows"
  nS : NoAttr K C "starts"
  nM : NoAttr K C "marks"
  mgC : mg "Rule" = some (.ref C)
  isi : mg "isinstance" = none
  int_ : mg "int" = none
  bool_ : mg "bool" = none
  list_ : mg "list" = none
  tup_ : mg "tuple" = none
  len_ : mg "len" = none
  all_ : mg "all" = none
  zip_ : mg "zip" = none
  range_ : mg "range" = none
  most : ∃ t, mg "MOST_ROWS" = some (.int 48 t)
  marks : ∃ d, mg "MARKS_OF_STARTS" = some (.ref d) ∧ KMarks K d
/-- an error class X, caught as P -/
structure TxtX (K : PySem.W.Frag) (mg : Str → Option Value) (X P : Addr) : Prop where
  x : PySem.W.excIn K X [.type "ValueError", .type "Exception", .type "BaseException", .type "object"] "ValueError.__new__" = true
  g : mg "InvalidRule" = some (.ref X)
  k : PySem.W.keepIn K (.ref X) = true
  b : PySem.W.subIn K (.ref X) (.type "BaseException") = some true
  t : PySem.W.typeIn K (.ref X) = some (.type "type")
  gP : mg "PairError" = some (.ref P)
  e : PySem.W.exmOne K (.ref X) (.ref P) = some true
  ex : PySem.W.exmOne K (.ref X) (.ref X) = some true
theorem ifN_yes {p A B : Prop} [Decidable p] (h : ¬ p) (q : A) : if (!decide p) = true then A else B := by
  rw [decide_eq_false h]
  exact iteT q
theorem ifN_2 {p A B : Prop} [Decidable p] (h1 : ¬ p → A) (h2 : p → B) : if (!decide p) = true then A else B := by
  by_cases h : p
  · rw [decide_eq_true h]
    exact iteF (h2 h)
  · exact ifN_yes h (h1 h)
/-! ### promises -/
def spIsInt : Sp := fun vs H Q _ => ∃ v, vs = [v] ∧ Cell H v ∧ Q (.bl (isI v)) H
def spBelow : Sp := fun vs H Q _ => ∃ (v : V) (n : Nat), vs = [v, .int (n : Int)] ∧ Cell H v ∧ Q (.bl (below n v)) H
def spIsRow : Sp := fun vs H Q _ => ∃ (p : Addr) (xs : List V) (n : Nat), vs = [.ref p, .int (n : Int)] ∧ H p = some (.tup xs) ∧ (∀ x ∈ xs, Cell H x) ∧ Q (.bl (rowOk n xs)) H
section
variable {P : Program} {w : World} {K : PySem.W.Frag} {mg : Str → Option Value} {base : Heap} {C : Addr}
theorem scIsInt : FnScope ["value"] ["value"] (defScope sIsInt) := ⟨rfl, rfl, rfl, by decide +kernel, rfl, by decide +kernel, by decide +kernel⟩
theorem ok_isInt {f : Addr} {fd : FuncData} (F : Fun K "is_integer" "is_integer" sIsInt f fd) (T : Txt K mg C) : FnOk P w K mg base CX0 1 f fd ["value"] spIsInt := by
  refine F.ok scIsInt (fun vs H Q E h => ?_) (fun cdv A outer s H vs Q E hr h => ?_)
  · obtain ⟨i, rfl, _⟩ := h
    rfl
  · obtain ⟨v, rfl, hc, k⟩ := h
    refine ⟨_, pss_one (ps_ret (pe_and (pe_callB call_isi (by rfl) T.isi boot_isi (pa_cons (pv 0) (pa_cons (pe_bltn (v := .ty "int") (by rfl) T.int_ boot_int' rfl) pa_nil)))
      (pe_one (pe_not (pe_callB call_isi (by rfl) T.isi boot_isi (pa_cons (pv 0) (pa_cons (pe_bltn (v := .ty "bool") (by rfl) T.bool_ boot_bool' rfl) pa_nil))))))), ?_⟩
    obtain ⟨t, ht, k1, k2⟩ := hc.ty (K := K)
    refine ⟨_, rfl, _, _, _, _, _, rfl, .ty _, ht, k1, _, rfl, ?_⟩
    cases v with
    | int i => exact iteT ⟨_, rfl, _, _, _, _, _, rfl, .ty _, ht, k2, _, rfl, k⟩
    | bl b => exact iteT ⟨_, rfl, _, _, _, _, _, rfl, .ty _, ht, k2, _, rfl, k⟩
    | _ => exact iteF k
theorem scBelow : FnScope ["value", "count"] ["value", "count"] (defScope sBelow) := ⟨rfl, rfl, rfl, by decide +kernel, rfl, by decide +kernel, by decide +kernel⟩
theorem ok_below {f g : Addr} {fd gd : FuncData} (F : Fun K "is_below" "is_below" sBelow f fd) (T : Txt K mg C) (D : Df K mg "is_integer" sIsInt g gd ["value"]) : FnOk P w K mg base CX0 2 f fd ["value", "count"] spBelow := by
  have G : FnOk P w K mg base CX0 1 g gd ["value"] spIsInt := ok_isInt D.F T
  refine F.ok scBelow (fun vs H Q E h => ?_) (fun cdv A outer s H vs Q E hr h => ?_)
  · obtain ⟨v, c, rfl, _⟩ := h
    rfl
  · obtain ⟨v, n, rfl, hc, k⟩ := h
    refine ⟨_, pss_one (ps_ret (pe_and (pe_call G hr rfl D.M D.F.kp D.B .nil pass0 (pa_cons (pv 0) pa_nil)) (pe_one (pe_chain op_le op_lt pe_int (pv 0) (pv 1))))), ?_⟩
    refine ⟨_, rfl, v, rfl, hc, _, rfl, ?_⟩
    cases v with
    | int i =>
      refine iteT ⟨_, rfl, _, _, rfl, rfl, _, rfl, ifD_2 (fun h0 => ⟨_, rfl, _, _, rfl, rfl, ?_⟩) fun h0 => ?_⟩
      · show Q (V.bl (decide (i < (n : Int)))) H
        have e : below n (.int i) = decide (i < (n : Int)) := by show (decide (0 ≤ i) && decide (i < (n : Int))) = _; rw [decide_eq_true h0, Bool.true_and]
        rw [← e]
        exact k
      · have e : below n (.int i) = false := by show (decide (0 ≤ i) && decide (i < (n : Int))) = _; rw [decide_eq_false h0, Bool.false_and]
        rw [e] at k
        exact k
    | _ => exact iteF k
theorem scIsRow : FnScope ["row", "count", "next_ahead", "falls", "next_behind", "goes"] ["row", "count"] (defScope sIsRow) := ⟨rfl, rfl, rfl, by decide +kernel, rfl, by decide +kernel, by decide +kernel⟩
theorem ok_isRow {f g1 g2 : Addr} {fd gd1 gd2 : FuncData} (F : Fun K "_is_row" "_is_row" sIsRow f fd) (T : Txt K mg C) (D1 : Df K mg "is_integer" sIsInt g1 gd1 ["value"]) (D2 : Df K mg "is_below" sBelow g2 gd2 ["value", "count"]) : FnOk P w K mg base CX0 3 f fd ["row", "count"] spIsRow := by
  have G : FnOk P w K mg base CX0 2 g2 gd2 ["value", "count"] spBelow := ok_below D2.F T D1
  refine F.ok scIsRow (fun vs H Q E h => ?_) (fun cdv A outer s H vs Q E hr h => ?_)
  · obtain ⟨p, r, n, rfl, _⟩ := h
    rfl
  · obtain ⟨p, xs, n, rfl, hp, hc, k⟩ := h
    refine ⟨_, pss_cons (ps_if (pt_cmpR op_ne (pe_callB call_len_seq (by rfl) T.len_ PySem.boot_len (pa_cons (pv 0) pa_nil)) pe_int (nomark _)) (pss_one (ps_ret pe_bl)) pss_nil)
      (pss_cons (ps_asg (pv 0) (pg_tup rfl (pgs_cons (pg_name (i := 2) scIsRow.nd rfl (Or.inl rfl)) (pgs_cons (pg_name (i := 3) scIsRow.nd rfl (Or.inl rfl)) (pgs_cons (pg_name (i := 4) scIsRow.nd rfl (Or.inl rfl)) (pgs_cons (pg_name (i := 5) scIsRow.nd rfl (Or.inl rfl)) pgs_nil))))))
      (pss_cons (ps_if (PW.pt (pw_or (pt_not (pt_val (pe_call G hr rfl D2.M D2.F.kp D2.B .nil pass0 (pa_cons (pv 2) (pa_cons (pv 1) pa_nil))))) (pw_or1 (pt_not (pt_val (pe_call G hr rfl D2.M D2.F.kp D2.B .nil pass0 (pa_cons (pv 4) (pa_cons (pv 1) pa_nil)))))))) (pss_one (ps_ret pe_bl)) pss_nil)
      (pss_one (ps_ret (pe_and (pe_callB call_isi (by rfl) T.isi boot_isi (pa_cons (pv 3) (pa_cons (pe_bltn (v := .ty "bool") (by rfl) T.bool_ boot_bool' rfl) pa_nil))) (pe_one (pe_callB call_isi (by rfl) T.isi boot_isi (pa_cons (pv 5) (pa_cons (pe_bltn (v := .ty "bool") (by rfl) T.bool_ boot_bool' rfl) pa_nil))))))))), ?_⟩
    refine ⟨_, rfl, p, _, rfl, .inr (SqT.of hp), rfl, _, rfl, ?_⟩
    by_cases h4 : xs.length = 4
    · obtain ⟨a, fl, b, go, rfl⟩ : ∃ a fl b go, xs = [a, fl, b, go] := by
        match xs, h4 with
        | [a, fl, b, go], _ => exact ⟨a, fl, b, go, rfl⟩
      have ca := hc a (by simp)
      have cb := hc b (by simp)
      have cf := hc fl (by simp)
      have cg := hc go (by simp)
      refine iteNS rfl ?_
      refine ⟨_, rfl, p, _, rfl, SqT.of hp, rfl, _, _, rfl, _, _, rfl, _, _, rfl, _, _, rfl, rfl, ?_⟩
      refine ⟨_, rfl, _, rfl, a, _, rfl, ca, _, rfl, ?_⟩
      have hk : Q (V.bl ((below n a && below n b) && (isB fl && isB go))) H := k
      cases ea : below n a with
      | false =>
        rw [ea] at hk
        exact iteT hk
      | true =>
        refine iteF ⟨_, rfl, _, rfl, b, _, rfl, cb, _, rfl, ?_⟩
        cases eb : below n b with
        | false =>
          rw [ea, eb] at hk
          exact iteT hk
        | true =>
          refine iteF ?_
          rw [ea, eb] at hk
          obtain ⟨t, ht, _, k2⟩ := cf.ty (K := K)
          obtain ⟨t', ht', _, k2'⟩ := cg.ty (K := K)
          refine ⟨_, rfl, _, _, _, _, _, rfl, .ty _, ht, k2, _, rfl, ?_⟩
          cases ef : isB fl with
          | false =>
            rw [ef] at hk
            exact iteF hk
          | true =>
            rw [ef] at hk
            exact iteT ⟨_, rfl, _, _, _, _, _, rfl, .ty _, ht', k2', hk⟩
    · refine ifN_yes (by intro z; injection z with z; exact h4 (by omega)) ?_
      have e : rowOk n xs = false := by
        unfold rowOk
        split
        · exact absurd rfl h4
        · rfl
      rw [e] at k
      exact k
end
end PA

set_option maxHeartbeats 4000000
namespace PA
open PySem L2 RZ
open C8 (pss_cut tCut)
abbrev isC : Hp → Addr → List V → Prop := TupOf id
def spCheck (K : PySem.W.Frag) (X : Addr) : Sp := fun vs H Q E => ∃ (R S : Addr) (refs : List V) (rows : List (List V)) (starts : List V), vs = [.ref R, .ref S] ∧ H R = some (.tup refs) ∧ Ea H isC refs rows ∧ SqT K H S starts ∧
  rows.length ≤ 9000 ∧ starts.length ≤ 9000 ∧ (∀ r ∈ rows, ∀ x ∈ r, Cell H x) ∧ (∀ x ∈ starts, Cell H x) ∧
  (tabOk rows starts = true → ∀ H', Same H H' → Q .non H') ∧ (tabOk rows starts = false → ∀ H', Same H H' → E (.ref X) none H')
section
variable {P : Program} {w : World} {K : PySem.W.Frag} {mg : Str → Option Value} {base : Heap} {C X PE_ : Addr}
theorem scCheck : FnScope ["rows", "starts", "row", "state"] ["rows", "starts"] (defScope sCheck) := ⟨rfl, rfl, rfl, by decide +kernel, rfl, by decide +kernel, by decide +kernel⟩
theorem ok_check {f g1 g2 g3 : Addr} {fd gd1 gd2 gd3 : FuncData} (F : Fun K "_check_table" "_check_table" sCheck f fd) (T : Txt K mg C) (TX : TxtX K mg X PE_) (D1 : Df K mg "is_integer" sIsInt g1 gd1 ["value"]) (D2 : Df K mg "is_below" sBelow g2 gd2 ["value", "count"]) (D3 : Df K mg "_is_row" sIsRow g3 gd3 ["row", "count"]) : FnOk P w K mg base (L2.CX P w) 4 f fd ["rows", "starts"] (spCheck K X) := by
  have G2 : FnOk P w K mg base CX0 3 g2 gd2 ["value", "count"] spBelow := (ok_below D2.F T D1).mono (by decide)
  have G3 : FnOk P w K mg base CX0 3 g3 gd3 ["row", "count"] spIsRow := ok_isRow D3.F T D1 D2
  obtain ⟨tm, hmost⟩ := T.most
  obtain ⟨dm, hdm, km⟩ := T.marks
  refine F.okX scCheck (fun vs H Q E h => ?_) (fun cdv A outer s H vs Q E hr h => ?_)
  · obtain ⟨R, S, _, _, _, rfl, _⟩ := h
    rfl
  · obtain ⟨R, S, refs, rows, starts, rfl, hR, hE, hS, h60, s60, hcr, hcs, kg, kb⟩ := h
    refine ⟨_, pss_cons (ps_if (pt_not (pt_chain op_le op_le pe_int (pe_callB call_len_seq (by rfl) T.len_ PySem.boot_len (pa_cons (pv 0) pa_nil)) (pe_glob (v := .int 48) rfl hmost ⟨_, rfl⟩)))
        (pss_one (ps_raise rfl (takes_of rfl rfl rfl rfl) (pmk_own PySem.F.excBase_ValueError TX.x TX.g TX.k (raises_own TX.b TX.t) (by rfl)))) pss_nil)
      (pss_cons (ps_if (pt_not (pt_val (pe_callB (cr_all rfl) (by rfl) T.all_ boot_all' (pa_cons (pe_lc (own := [("row", 2)]) (g := gName 2) (tt := tYes) (by rfl) scCheck.nd (pi_tup (pv 0)) (blkOk_by (N := ["rows", "starts", "row", "state"]) (sc := defScope sCheck) (by decide +kernel))
          (fun _ _ _ _ _ => pg_name (i := 2) scCheck.nd rfl (Or.inl rfl)) (fun _ _ _ _ _ => pts_nil)
          (fun _ _ _ _ _ => pe_call G3 hr rfl D3.M D3.F.kp D3.B .nil pass0 (pa_cons (pv 2) (pa_cons (pe_callB (call_lenK (K := K) rfl) (by rfl) T.len_ PySem.boot_len (pa_cons (pv 0) pa_nil)) pa_nil)))) pa_nil))))
        (pss_one (ps_raise rfl (takes_of rfl rfl rfl rfl) (pmk_own PySem.F.excBase_ValueError TX.x TX.g TX.k (raises_own TX.b TX.t) (by rfl)))) pss_nil)
      (pss_cons (ps_if (pt_cmpR (op_notIn_kx km) (pe_callB call_len_seq (by rfl) T.len_ PySem.boot_len (pa_cons (pv 1) pa_nil)) (pe_glob (v := .ref dm) rfl hdm rfl) rfl)
        (pss_one (ps_raise rfl (takes_of rfl rfl rfl rfl) (pmk_own PySem.F.excBase_ValueError TX.x TX.g TX.k (raises_own TX.b TX.t) (by rfl)))) pss_nil)
      (pss_one (ps_if (pt_not (pt_val (pe_callB (cr_all rfl) (by rfl) T.all_ boot_all' (pa_cons (pe_lc (own := [("state", 3)]) (g := gName 3) (tt := tYes) (by rfl) scCheck.nd (pi_tup (pv 1)) (blkOk_by (N := ["rows", "starts", "row", "state"]) (sc := defScope sCheck) (by decide +kernel))
          (fun _ _ _ _ _ => pg_name (i := 3) scCheck.nd rfl (Or.inl rfl)) (fun _ _ _ _ _ => pts_nil)
          (fun _ _ _ _ _ => pe_call G2 hr rfl D2.M D2.F.kp D2.B .nil pass0 (pa_cons (pv 3) (pa_cons (pe_callB (call_lenK (K := K) rfl) (by rfl) T.len_ PySem.boot_len (pa_cons (pv 0) pa_nil)) pa_nil)))) pa_nil))))
        (pss_one (ps_raise rfl (takes_of rfl rfl rfl rfl) (pmk_own PySem.F.excBase_ValueError TX.x TX.g TX.k (raises_own TX.b TX.t) (by rfl)))) pss_nil)))), ?_⟩
    have hlr : refs.length = rows.length := hE.1
    refine ⟨_, rfl, ?_⟩
    refine ⟨R, _, rfl, .inr (SqT.of hR), _, _, rfl, rfl, _, rfl, ?_⟩
    rw [hlr]
    by_cases h1 : 1 ≤ rows.length
    rotate_left
    · refine ifD_no (by omega) ?_
      have e1 : tabOk rows starts = false := by
        unfold tabOk
        rw [decide_eq_false h1]
        simp
      exact ⟨false, rfl, iteT (kb e1 H fun _ _ e => e)⟩
    refine ifD_yes (by omega) ⟨_, _, rfl, rfl, _, rfl, ?_⟩
    by_cases h48 : rows.length ≤ 48
    rotate_left
    · have e1 : tabOk rows starts = false := by
        unfold tabOk
        rw [decide_eq_false h48]
        simp
      rw [decide_eq_false (by omega)]
      exact iteT (kb e1 H fun _ _ e => e)
    rw [decide_eq_true (by omega)]
    refine iteF ?_
    refine ⟨_, rfl, R, rfl, ⟨_, SqT.of hR⟩, fun Dd hD => ?_⟩
    refine lc_same (xs := refs) (walk_t (K := K) (a := R) (xs := refs)) (by rw [hlr]; exact Nat.le_trans h60 (by decide)) hD (fun H' s' => SqT.of (s' _ _ hR)) ((rows.map (rowOk rows.length)).map V.bl) (by simp [hlr]) (fun i x y H' Φ Ψ hx hy sm k => ?_) fun H1 s1 hd1 => ?_
    · rw [List.getElem?_map, Option.map_eq_some_iff] at hy
      obtain ⟨y, hy, rfl⟩ := hy
      rw [List.getElem?_map, Option.map_eq_some_iff] at hy
      obtain ⟨r, hq, rfl⟩ := hy
      obtain ⟨c, rfl, hc⟩ := hE.2 i x _ hx hq
      refine ⟨rfl, ?_⟩
      dsimp only [tYes]
      rw [if_pos rfl]
      refine ⟨_, rfl, _, rfl, R, _, rfl, .inr (SqT.of (sm _ _ hR)), c, r, rows.length, congrArg (fun z : Nat => [V.ref c, V.int (z : Int)]) hlr, sm _ _ hc, fun z hz => (hcr r (List.mem_of_getElem? hq) z hz).kin (Kin.same sm), k H' fun _ _ e => e⟩
    refine ⟨Dd, _, rfl, SqL.of hd1, ?_⟩
    cases hrow : (rows.map (rowOk rows.length)).all id with
    | false =>
      have e1 : tabOk rows starts = false := by
        have : rows.all (rowOk rows.length) = false := by
          rw [← hrow, List.all_map]
          rfl
        unfold tabOk
        rw [this]
        simp
      exact ⟨false, rfl, iteT (kb e1 H1 s1)⟩
    | true =>
    have hrow' : rows.all (rowOk rows.length) = true := by
      rw [← hrow, List.all_map]
      rfl
    refine ⟨true, rfl, iteF ?_⟩
    have hS1 := SqT.up hS s1
    refine ⟨_, rfl, S, _, rfl, .inr (hS1), (starts.length : Int), rfl, rfl, _, rfl, ?_⟩
    cases hrt : isRt (starts.length : Int) with
    | false =>
      have e1 : tabOk rows starts = false := by
        unfold tabOk
        rw [hrt]
        simp
      exact iteT (kb e1 H1 s1)
    | true =>
    refine iteF ?_
    refine ⟨_, rfl, S, rfl, ⟨_, hS1⟩, fun De hE' => ?_⟩
    refine lc_same (xs := starts) (walk_t (K := K) (a := S) (xs := starts)) (Nat.le_trans s60 (by decide)) hE' (fun H' s' => SqT.up hS1 s') ((starts.map (below rows.length)).map V.bl) (by simp) (fun i x y H' Φ Ψ hx hy sm k => ?_) fun H2 s2 hd2 => ?_
    · rw [List.getElem?_map, Option.map_eq_some_iff] at hy
      obtain ⟨y, hy, rfl⟩ := hy
      rw [List.getElem?_map, Option.map_eq_some_iff] at hy
      obtain ⟨r, hq, rfl⟩ := hy
      rw [hx] at hq
      cases hq
      refine ⟨rfl, ?_⟩
      dsimp only [tYes]
      rw [if_pos rfl]
      exact ⟨_, rfl, _, rfl, R, _, rfl, .inr (SqT.of (sm _ _ (s1 _ _ hR))), x, rows.length, congrArg (fun z : Nat => [x, V.int (z : Int)]) hlr, (hcs x (List.mem_of_getElem? hx)).kin (Kin.same (s1.trans sm)), k H' fun _ _ e => e⟩
    refine ⟨De, _, rfl, SqL.of hd2, ?_⟩
    cases hst : (starts.map (below rows.length)).all id with
    | false =>
      have e1 : tabOk rows starts = false := by
        have : starts.all (below rows.length) = false := by
          rw [← hst, List.all_map]
          rfl
        unfold tabOk
        rw [this]
        simp
      exact ⟨false, rfl, iteT (kb e1 H2 (s1.trans s2))⟩
    | true =>
    have hst' : starts.all (below rows.length) = true := by
      rw [← hst, List.all_map]
      rfl
    refine ⟨true, rfl, iteF (kg ?_ H2 (s1.trans s2))⟩
    unfold tabOk
    rw [decide_eq_true h1, decide_eq_true h48, hrow', hrt, hst']
    rfl
end
end PA

set_option maxHeartbeats 4000000
namespace PA
open PySem L2 RZ
open C8 (pss_cut tCut)
/-- a tuple or a list at c of the cells -/
def TLc (H : Hp) (c : Addr) (r : List V) : Prop := H c = some (.tup r) ∨ H c = some (.lst r)
theorem rf2_rows (R S : Addr) : (putF "starts" (.ref S) (putF "rows" (.ref R) [])).lookup ("rows" : Str) = some (V.ref R) := by
  rw [lookup_putF, if_neg rs_, lookup_putF, if_pos rfl]
theorem rf2_starts (R S : Addr) : (putF "starts" (.ref S) (putF "rows" (.ref R) [])).lookup ("starts" : Str) = some (V.ref S) := by
  rw [lookup_putF, if_pos rfl]
/-- what is good for a Rule -/
structure Good (rows : List Rw) (starts : List Int) (k : Int) : Prop where
  one : 1 ≤ rows.length
  most : rows.length ≤ 48
  ok : ∀ r ∈ rows, RwOk rows.length r
  root : Root (starts.length : Int) k
  st : ∀ s ∈ starts, 0 ≤ s ∧ s < (rows.length : Int)
theorem SqT.keep {K : PySem.W.Frag} {H H' : Hp} {a p C dx : Addr} {fs : List (Str × V)} {xs : List V} (h : SqT K H a xs) (hp : H p = some (.ins C dx fs)) (kp : ∀ c o, H c = some o → c ≠ p → H' c = some o) : SqT K H' a xs := by
  rcases h with (h | ⟨ob, h⟩) | h
  · exact .inl (.inl (kp _ _ h (ne_of h hp (by intro z; cases z))))
  · exact .inl (.inr ⟨ob, kp _ _ h (ne_of h hp (by intro z; cases z))⟩)
  · exact .inr h
theorem below_back {n : Nat} {v : V} (h : below n v = true) : ∃ i : Int, v = .int i ∧ 0 ≤ i ∧ i < (n : Int) := by
  cases v with
  | int i =>
    have h : (decide ((0 : Int) ≤ i) && decide (i < (n : Int))) = true := h
    rw [Bool.and_eq_true, decide_eq_true_eq, decide_eq_true_eq] at h
    exact ⟨i, rfl, h.1, h.2⟩
  | _ => cases h
theorem row_back {n : Nat} {r : List V} (h : rowOk n r = true) : ∃ l, r = rv l ∧ RwOk n l := by
  match r, h with
  | [a, f, b, g], h =>
    have h : (below n a && below n b && (isB f && isB g)) = true := h
    simp only [Bool.and_eq_true] at h
    obtain ⟨i, rfl, hi⟩ := below_back h.1.1
    obtain ⟨j, rfl, hj⟩ := below_back h.1.2
    cases f with
    | bl f =>
      cases g with
      | bl g => exact ⟨(i, f, j, g), rfl, hi, hj.1, hj.2⟩
      | _ => cases h.2.2
    | _ => cases h.2.1
theorem tab_back {rows : List (List V)} {starts : List V} (h : tabOk rows starts = true) : ∃ rs ss k, rows = rs.map rv ∧ starts = ss.map V.int ∧ Good rs ss k := by
  unfold tabOk at h
  simp only [Bool.and_eq_true, decide_eq_true_eq, List.all_eq_true] at h
  obtain ⟨⟨⟨h1, hr⟩, hrt⟩, hs⟩ := h
  have all : ∀ rows' : List (List V), (∀ r ∈ rows', ∃ l, r = rv l ∧ RwOk rows.length l) → ∃ ls : List Rw, rows' = ls.map rv ∧ ∀ l ∈ ls, RwOk rows.length l := by
    intro rows'
    induction rows' with
    | nil => exact fun _ => ⟨[], rfl, fun _ h => by cases h⟩
    | cons r rs ih =>
      intro hh
      obtain ⟨l, rfl, ol⟩ := hh r (by simp)
      obtain ⟨ls, rfl, o⟩ := ih fun r hr => hh r (List.mem_cons_of_mem _ hr)
      refine ⟨l :: ls, rfl, fun x hx => ?_⟩
      rcases List.mem_cons.mp hx with rfl | hx
      · exact ol
      · exact o x hx
  have alls : ∀ st : List V, (∀ v ∈ st, ∃ i : Int, v = .int i ∧ 0 ≤ i ∧ i < (rows.length : Int)) → ∃ ss : List Int, st = ss.map V.int ∧ ∀ s ∈ ss, 0 ≤ s ∧ s < (rows.length : Int) := by
    intro st
    induction st with
    | nil => exact fun _ => ⟨[], rfl, fun _ h => by cases h⟩
    | cons r rs ih =>
      intro hh
      obtain ⟨l, rfl, ol⟩ := hh r (by simp)
      obtain ⟨ls, rfl, o⟩ := ih fun r hr => hh r (List.mem_cons_of_mem _ hr)
      refine ⟨l :: ls, rfl, fun x hx => ?_⟩
      rcases List.mem_cons.mp hx with rfl | hx
      · exact ol
      · exact o x hx
  obtain ⟨rs, e, o⟩ := all rows fun r h => row_back (hr r h)
  obtain ⟨ss, e2, o2⟩ := alls starts fun v h => below_back (hs v h)
  obtain ⟨k, hk⟩ := isRt_root hrt
  have el : rows.length = rs.length := by rw [e, List.length_map]
  have el2 : starts.length = ss.length := by rw [e2, List.length_map]
  rw [el] at h1 o o2
  rw [el2] at hk
  exact ⟨rs, ss, k, e, e2, ⟨h1.1, h1.2, o, hk, o2⟩⟩
theorem Ea.rows {H : Hp} {refs : List V} {rs : List Rw} (e : Ea H isC refs (rs.map rv)) : Each H isT refs rs :=
  ⟨by have := e.1; rwa [List.length_map] at this, fun i x r h1 h2 => e.2 i x (rv r) h1 (by rw [List.getElem?_map, h2]; rfl)⟩
def spInit (K : PySem.W.Frag) (C X : Addr) : Sp := fun vs H Q E => ∃ (p dx G S : Addr) (refs : List V) (rows : List (List V)) (starts : List V), vs = [.ref p, .ref G, .ref S] ∧ H p = some (.ins C dx []) ∧
  (H G = some (.lst refs) ∨ H G = some (.tup refs)) ∧ Ea H TLc refs rows ∧ (H S = some (.lst starts) ∨ SqT K H S starts) ∧
  rows.length ≤ 9000 ∧ starts.length ≤ 9000 ∧ (∀ r ∈ rows, ∀ x ∈ r, Cell H x) ∧ (∀ x ∈ starts, Cell H x) ∧
  (∀ rs ss k H', rows = rs.map rv → starts = ss.map V.int → Good rs ss k → RuleAt K C H' p rs ss k → (∀ c o, H c = some o → c ≠ p → H' c = some o) → Q .non H') ∧
  (tabOk rows starts = false → ∀ H', (∀ c o, H c = some o → c ≠ p → H' c = some o) → E (.ref X) none H')
abbrev FunI (K : PySem.W.Frag) (f : Addr) (fd : FuncData) (dd : Addr) : Prop := FunD K "__init__" "Rule.__init__" (defArgs sInit) (defBody sInit) (defScope sInit) [V.ref dd] [] f fd
section
variable {P : Program} {w : World} {K : PySem.W.Frag} {mg : Str → Option Value} {base : Heap} {C X PE_ : Addr}
theorem scInit : FnScope ["self", "rows", "starts", "row"] ["self", "rows", "starts"] (defScope sInit) := ⟨rfl, rfl, rfl, by decide +kernel, rfl, by decide +kernel, by decide +kernel⟩
theorem tab_root {rows : List (List V)} {starts : List V} (h : tabOk rows starts = true) : ∃ k, Root (starts.length : Int) k := by
  unfold tabOk at h
  simp only [Bool.and_eq_true] at h
  exact isRt_root h.1.2
theorem ok_init {f g1 g2 g3 g4 dd : Addr} {fd gd1 gd2 gd3 gd4 : FuncData} (F : FunI K f fd dd) (T : Txt K mg C) (TX : TxtX K mg X PE_) (D1 : Df K mg "is_integer" sIsInt g1 gd1 ["value"]) (D2 : Df K mg "is_below" sBelow g2 gd2 ["value", "count"]) (D3 : Df K mg "_is_row" sIsRow g3 gd3 ["row", "count"]) (D4 : Df K mg "_check_table" sCheck g4 gd4 ["rows", "starts"]) : FnOk P w K mg base (L2.CX P w) 5 f fd ["self", "rows", "starts"] (spInit K C X) := by
  have G4 : FnOk P w K mg base (L2.CX P w) 4 g4 gd4 ["rows", "starts"] (spCheck K X) := ok_check D4.F T TX D1 D2 D3
  obtain ⟨dm, hdm, km⟩ := T.marks
  refine F.ok scInit (fun vs H Q E h => ?_) (fun cdv A outer s H vs Q E hr h => ?_)
  · obtain ⟨p, dx, G, S, _, _, _, rfl, _⟩ := h
    rfl
  · obtain ⟨p, dx, G, S, refs, rows, starts, rfl, hp, hG, hE, hS, h60, s60, hcr, hcs, kg, kb⟩ := h
    refine ⟨_, pss_cut (ps_fld (pv 0) (pe_callTy call_tuple_of (by rfl) T.tup_ boot_tuple' (pa_cons (pe_lc (own := [("row", 3)]) (g := gName 3) (tt := tYes) (by rfl) scInit.nd (pi_sq (pv 1)) (blkOk_by (N := ["self", "rows", "starts", "row"]) (sc := defScope sInit) (by decide +kernel))
          (fun _ _ _ _ _ => pg_name (i := 3) scInit.nd rfl (Or.inl rfl)) (fun _ _ _ _ _ => pts_nil)
          (fun _ _ _ _ _ => pe_callTy (call_tupleK (K := K) rfl) (by rfl) T.tup_ boot_tuple' (pa_cons (pv 3) pa_nil))) pa_nil)) rfl)
      (pss_cut (ps_fld (pv 0) (pe_callTy call_tuple_of (by rfl) T.tup_ boot_tuple' (pa_cons (pv 2) pa_nil)) rfl)
      (pss_cons (ps_expr (pe_call (E := E) G4 hr rfl D4.M D4.F.kp D4.B .nil (passes_call (takes_of rfl rfl rfl rfl) (fun _ _ _ _ z => z)) (pa_cons (pe_fld (pv 0) rfl) (pa_cons (pe_fld (pv 0) rfl) pa_nil))))
      (pss_one (ps_fld (pv 0) (pe_ix (ix_km km) (pe_glob (v := .ref dm) rfl hdm rfl) (pe_callB call_len_seq (by rfl) T.len_ PySem.boot_len (pa_cons (pe_fld (pv 0) rfl) pa_nil)) (fun _ _ => rfl)) rfl)))), ?_⟩
    have hlr : refs.length = rows.length := hE.1
    have hsz : refs.length ≤ sizeLine := by rw [hlr]; exact Nat.le_trans h60 (by decide)
    refine ⟨fun σ' H' => σ' = [some (.ref p), some (.ref G), some (.ref S), none] ∧ ∃ R refs', H' p = some (.ins C dx (putF "rows" (.ref R) [])) ∧ H' R = some (.tup refs') ∧ Ea H' isC refs' rows ∧ (∀ c o, H c = some o → c ≠ p → H' c = some o), ?_, ?_⟩
    · obtain ⟨k, hk⟩ : ∃ k, Sk K k H G refs := by
        rcases hG with hG | hG
        · exact ⟨.l, SqL.of hG⟩
        · exact ⟨.t, SqT.of hG⟩
      refine ⟨k, _, rfl, G, rfl, ⟨_, hk⟩, fun Dd hD => ?_⟩
      refine lc_acc (xs := refs) (walk_k (k := k)) hsz hD (fun H' s' => hk.up s') (fun i acc H' => Ea H' isC acc (rows.take i)) (fun i acc H' e => by rw [e.1, List.length_take]; omega) (by rw [List.take_zero]; exact Ea.nil) (fun i x H' acc Φ Ψ hi hx sm hd he kf => ?_) fun H1 acc s1 hd he => ?_
      · obtain ⟨c, r, rfl, hl, hc⟩ := hE.at_ hx
        refine ⟨rfl, ?_⟩
        dsimp only [tYes]
        rw [if_pos rfl]
        rcases hc with hc | hc
        · refine ⟨_, rfl, c, _, rfl, .inr ⟨SqT.of (sm _ _ hc), kf _ H' (fun _ _ e => e) hd fun H5 h5 b1 b2 => ?_⟩⟩
          rw [take_succ' hl]
          exact Ea.push (he.imp fun c' r' q => TupOf.but q hd b1) (TupOf.but (f := id) (sm _ _ hc) hd b1)
        · refine ⟨_, rfl, c, _, rfl, .inl ⟨SqL.of (sm _ _ hc), fun q hq => ?_⟩⟩
          have sq := new_ (o := .tup r) hq
          refine kf _ _ sq (sq _ _ hd) fun H5 h5 b1 b2 => ?_
          rw [take_succ' hl]
          exact Ea.push (he.imp fun c' r' z => TupOf.but (f := id) (sq _ _ z) (sq _ _ hd) b1) (TupOf.but (f := id) upd_same (sq _ _ hd) b1)
      · rw [hlr, List.take_length] at he
        refine ⟨Dd, _, rfl, .inl ⟨SqL.of hd, fun l hl => ?_⟩⟩
        have sl := new_ (o := .tup acc) hl
        have hp1 := sl _ _ (s1 _ _ hp)
        refine ⟨_, rfl, p, C, dx, _, rfl, hp1, T.cl, T.nR, (by show 0 < 1000; decide), rfl, l, acc, upd_same, ?_, ?_, fun c o e hc => by rw [upd_ne hc]; exact sl _ _ (s1 _ _ e)⟩
        · rw [upd_ne (ne_of hp1 upd_same (by intro z; cases z)).symm]
          exact upd_same
        · exact (he.same sl).imp fun c r q => TupOf.ins (f := id) q hp1
    rintro _ H1 ⟨rfl, R, refs', hp1, hR1, hE1, kp1⟩
    have hS1 : H1 S = some (.lst starts) ∨ SqT K H1 S starts := by
      rcases hS with h | h
      · exact .inl (kp1 _ _ h (ne_of h hp (by intro z; cases z)))
      · exact .inr (SqT.keep h hp kp1)
    refine ⟨fun σ' H' => σ' = [some (.ref p), some (.ref G), some (.ref S), none] ∧ ∃ S', H' p = some (.ins C dx (putF "starts" (.ref S') (putF "rows" (.ref R) []))) ∧ H' R = some (.tup refs') ∧ Ea H' isC refs' rows ∧ SqT K H' S' starts ∧ (∀ c o, H c = some o → c ≠ p → H' c = some o), ?_, ?_⟩
    · rcases hS1 with hS1 | hS1
      · refine ⟨_, rfl, S, _, rfl, .inl ⟨SqL.of hS1, fun l hl => ?_⟩⟩
        have sl := new_ (o := .tup starts) hl
        have hp2 := sl _ _ hp1
        refine ⟨_, rfl, p, C, dx, _, rfl, hp2, T.cl, T.nS, (by show 1 < 1000; decide), rfl, l, upd_same, ?_, ?_, ?_, ?_⟩
        · rw [upd_ne (ne_of (sl _ _ hR1) hp2 (by intro z; cases z))]
          exact sl _ _ hR1
        · exact (hE1.same sl).imp fun c' r' q => TupOf.ins (f := id) q hp2
        · refine SqT.of ?_
          rw [upd_ne (ne_of hp2 upd_same (by intro z; cases z)).symm]
          exact upd_same
        · intro c o e hc
          rw [upd_ne hc]
          exact sl _ _ (kp1 _ _ e hc)
      · refine ⟨_, rfl, S, _, rfl, .inr ⟨hS1, ?_⟩⟩
        refine ⟨_, rfl, p, C, dx, _, rfl, hp1, T.cl, T.nS, (by show 1 < 1000; decide), rfl, S, upd_same, ?_, ?_, ?_, ?_⟩
        · rw [upd_ne (ne_of hR1 hp1 (by intro z; cases z))]
          exact hR1
        · exact hE1.imp fun c' r' q => TupOf.ins (f := id) q hp1
        · exact SqT.keep hS1 hp1 fun c o e hc => by rw [upd_ne hc]; exact e
        · intro c o e hc
          rw [upd_ne hc]
          exact kp1 _ _ e hc
    rintro _ H2 ⟨rfl, S', hp2, hR2, hE2, hS2, kp2⟩
    have kin : Kin H H2 := Kin.ins hp kp2
    refine ⟨_, rfl, p, C, dx, _, _, rfl, hp2, T.cl, T.nR, rf2_rows R S', _, rfl, p, C, dx, _, _, rfl, hp2, T.cl, T.nS, rf2_starts R S', R, S', refs', rows, starts, rfl, hR2, hE2, hS2, h60, s60, fun r hr x hx => (hcr r hr x hx).kin kin, fun x hx => (hcs x hx).kin kin, fun ok H3 s3 => ?_, fun bad H3 s3 => kb bad H3 fun c o e hc => s3 _ _ (kp2 c o e hc)⟩
    obtain ⟨rs, ss, k, e1, e2, gd⟩ := tab_back ok
    have hS3 := SqT.up hS2 s3
    refine ⟨_, rfl, p, C, dx, _, _, rfl, s3 _ _ hp2, T.cl, T.nS, rf2_starts R S', S', _, rfl, .inr hS3, (starts.length : Int), k, rfl, rfl, (by rw [e2, List.length_map]; exact gd.root), ?_⟩
    refine ⟨_, rfl, p, C, dx, _, rfl, s3 _ _ hp2, T.cl, T.nM, (by show 2 < 1000; decide), ?_⟩
    subst e1
    subst e2
    refine kg rs ss k _ rfl rfl gd ⟨dx, R, S', refs', upd_same, ?_, ?_, ?_⟩ ?_
    · rw [upd_ne (ne_of (s3 _ _ hR2) (s3 _ _ hp2) (by intro z; cases z))]
      exact s3 _ _ hR2
    · exact Ea.rows ((hE2.same s3).imp fun c' r' q => TupOf.ins (f := id) q (s3 _ _ hp2))
    · exact SqT.keep hS3 (s3 _ _ hp2) fun c o e hc => by rw [upd_ne hc]; exact e
    · intro c o e hc
      rw [upd_ne hc]
      exact s3 _ _ (kp2 _ _ e hc)
end
end PA

set_option maxHeartbeats 2000000
namespace PA
open PySem L2 RZ
open C8 (pss_cut tCut)
/-! ### data of ints -/
theorem ints_lay : ∀ ns : List Int, PyData.canLayAll0 (ns.map PyData.int) = true
  | [] => by simp [PyData.canLayAll0]
  | z :: zs => by simp [PyData.canLayAll0, PyData.canLay0, ints_lay zs]
theorem ints_depth : ∀ ns : List Int, PyData.depthAll (ns.map PyData.int) ≤ 2
  | [] => by simp [PyData.depthAll]
  | z :: zs => by
    have h1 := ints_depth zs
    simp only [List.map_cons, PyData.depthAll, PyData.depth]
    omega
theorem ints_shaped (ns : List Int) : SeqAt.shaped (.list (ns.map PyData.int)) = true := by
  have h1 := ints_depth ns
  have h2 : PyData.depth (.list (ns.map PyData.int)) ≤ 64 := by
    simp only [PyData.depth]
    omega
  show (PyData.canLay0 (.list (ns.map PyData.int)) && decide (PyData.depth (.list (ns.map PyData.int)) ≤ 64)) = true
  rw [Bool.and_eq_true]
  exact ⟨by simp only [PyData.canLay0]; exact ints_lay ns, decide_eq_true h2⟩
theorem dp_ints {K : PySem.W.Frag} {H : Hp} : ∀ ns : List Int, DpAll K H (ns.map V.int) (ns.map PyData.int)
  | [] => .nil
  | z :: zs => .cons (.int z) (dp_ints zs)
theorem ints_nil (ns : List Int) : PyData.eqv (.list (ns.map PyData.int)) (.list []) = ns.isEmpty := by
  cases ns with
  | nil => simp [PyData.eqv, PyData.eqvAll]
  | cons z zs => simp [PyData.eqv, PyData.eqvAll]
/-! ### the stream of draws: the list at a, the numbers left at l, n draws made -/
def StreamAt (H : Hp) (a l : Addr) (n : Nat) : Prop := a ≠ l ∧ ∃ (ns : List Int) (x z : Int), H a = some (.lst [.ref l, .int x, .int (n : Int), .int z]) ∧ H l = some (.lst (ns.map V.int)) ∧ ns.length ≤ 63 ∧ 0 ≤ x ∧ 0 ≤ z ∧ z < 2147483647
/-- all but the stream is kept -/
def Keep (a l : Addr) (H H' : Hp) : Prop := ∀ c o, c ≠ a → c ≠ l → H c = some o → H' c = some o
theorem Keep.refl (a l : Addr) (H : Hp) : Keep a l H H := fun _ _ _ _ h => h
theorem Keep.trans {a l : Addr} {H H1 H2 : Hp} (h : Keep a l H H1) (h' : Keep a l H1 H2) : Keep a l H H2 := fun c o x y e => h' c o x y (h c o x y e)
theorem Keep.of {a l : Addr} {H H' : Hp} (h : Same H H') : Keep a l H H' := fun c o _ _ e => h c o e
theorem StreamAt.same {H H' : Hp} {a l : Addr} {n : Nat} (h : StreamAt H a l n) (s : Same H H') : StreamAt H' a l n := by
  obtain ⟨ne, ns, x, z, h1, h2, h3⟩ := h
  exact ⟨ne, ns, x, z, s _ _ h1, s _ _ h2, h3⟩
def spDraw : Sp := fun vs H Q _ => ∃ (a l : Addr) (n : Nat) (many : Int), vs = [.ref a, .int many] ∧ StreamAt H a l n ∧ n ≤ 100000 ∧ 0 < many ∧ Sm 9000 many ∧
  ∀ (r : Int) (H' : Hp), 0 ≤ r → r < many → StreamAt H' a l (n + 1) → Keep a l H H' → Q (.int r) H'
section
variable {P : Program} {w : World} {K : PySem.W.Frag} {mg : Str → Option Value} {base : Heap} {C : Addr}
theorem scDraw : FnScope ["_law_stream", "_law_many", "_law_digit", "_law_mixed"] ["_law_stream", "_law_many"] (defScope sDraw) := ⟨rfl, rfl, rfl, by decide +kernel, rfl, by decide +kernel, by decide +kernel⟩
theorem ok_draw {f : Addr} {fd : FuncData} (F : Fun K "_law_draw" "_law_draw" sDraw f fd) (T : Txt K mg C) : FnOk P w K mg base CX0 1 f fd ["_law_stream", "_law_many"] spDraw := by
  refine F.ok scDraw (fun vs H Q E h => ?_) (fun cdv A outer s H vs Q E hr h => ?_)
  · obtain ⟨a, l, n, many, rfl, _⟩ := h
    rfl
  · obtain ⟨a, l, n, many, rfl, ⟨ne, ns, x, z, h1, h2, hl, hx, hz0, hz1⟩, hn, hm, hms, k⟩ := h
    have hW : ∀ j : Int, CDivW j many := fun j => ⟨hm, Nat.lt_of_lt_of_le (PySem.Flt.log2_lt_of (by decide) hms) (Nat.le_refl _)⟩
    refine ⟨_, pss_cut (ps_asg (pe_op op_add (pe_ix ix_list (pv 0) pe_int (fun _ _ => rfl)) pe_int) (pg_sub (pv 0) pe_int set_list))
      (pss_cut (ps_if (PW.pt (pw_and (pt_cmpR op_eq (pe_ix ix_list (pv 0) pe_int (fun _ _ => rfl)) pe_int (nomark _)) (pw_and1 (pt_cmpR (op_neD hr.units) (pe_ix ix_list (pv 0) pe_int (fun _ _ => rfl)) (pe_lst pa_nil) (nomark _)))))
        (pss_cons (ps_asg (pe_bm PySem.F.plainAttrs_list PySem.F.slot_list_pop PySem.F.type_list_pop mt_popAt (pe_ix ix_list (pv 0) pe_int (fun _ _ => rfl)) (pa_cons pe_int pa_nil)) (pg_sub (pv 0) pe_int set_list))
          (pss_one (ps_if (pt_cmpR op_lt (pe_ix ix_list (pv 0) pe_int (fun _ _ => rfl)) (pe_op op_pow pe_int pe_int) (nomark _))
            (pss_cons (ps_asg (pe_op op_mod (pe_callTy call_int1 (by rfl) T.int_ boot_int' (pa_cons (pe_op op_add (pe_op op_add (pe_op op_mul (pe_ix ix_list (pv 0) pe_int (fun _ _ => rfl)) pe_int) (pe_ix ix_list (pv 0) pe_int (fun _ _ => rfl))) pe_int) pa_nil)) pe_int) (pg_sub (pv 0) pe_int set_list))
              (pss_one (ps_asg pe_int (pg_sub (pv 0) pe_int set_list)))) pss_nil))) pss_nil)
      (pss_cons (ps_if (pt_cmpR op_gt (pe_ix ix_list (pv 0) pe_int (fun _ _ => rfl)) pe_int (nomark _))
        (pss_cons (ps_set (i := 2) scDraw.nd rfl (Or.inl rfl) (pe_op op_mod (pe_callTy call_int1 (by rfl) T.int_ boot_int' (pa_cons (pe_ix ix_list (pv 0) pe_int (fun _ _ => rfl)) pa_nil)) (pv 1)))
          (pss_cons (ps_asg (pe_op op_fdivW (pe_ix ix_list (pv 0) pe_int (fun _ _ => rfl)) (pv 1)) (pg_sub (pv 0) pe_int set_list))
            (pss_one (ps_ret (pv 2))))) pss_nil)
      (pss_cons (ps_set (i := 3) scDraw.nd rfl (Or.inl rfl) (pe_op op_mod (pe_op op_pow (pe_op op_add (pe_op op_add (pe_ix ix_list (pv 0) pe_int (fun _ _ => rfl)) (pe_op op_mul pe_int (pe_ix ix_list (pv 0) pe_int (fun _ _ => rfl)))) pe_int) pe_int) pe_int))
      (pss_one (ps_ret (pe_op op_mod (pe_op op_mod (pe_op op_pow (pe_op op_add (pe_op op_add (pe_op op_mul (pv 3) pe_int) (pe_op op_mul (pe_op op_mul pe_int (pe_ix ix_list (pv 0) pe_int (fun _ _ => rfl))) (pe_ix ix_list (pv 0) pe_int (fun _ _ => rfl)))) pe_int) pe_int) pe_int) (pv 1))))))), ?_⟩
    refine ⟨fun σ' H' => σ' = [some (V.ref a), some (V.int many), none, none] ∧ H' = upd H a (.lst [.ref l, .int x, .int ((n : Int) + 1), .int z]), ?_, ?_⟩
    · exact ⟨_, rfl, a, _, 2, _, rfl, rfl, SqL.of h1, rfl, _, _, rfl, rfl, _, rfl, a, _, 2, 2, rfl, rfl, h1, rfl, rfl, rfl⟩
    rintro _ _ ⟨rfl, rfl⟩
    refine ⟨fun σ' H' => σ' = [some (V.ref a), some (V.int many), none, none] ∧ ∃ (ns' : List Int) (x' z' : Int), H' a = some (.lst [.ref l, .int x', .int ((n : Int) + 1), .int z']) ∧ H' l = some (.lst (ns'.map V.int)) ∧ ns'.length ≤ 63 ∧ 0 ≤ x' ∧ 0 ≤ z' ∧ z' < 2147483647 ∧ Keep a l H H', ?_, ?_⟩
    · have kp1 : Keep a l H (upd H a (.lst [.ref l, .int x, .int ((n : Int) + 1), .int z])) := fun c o ca _ e => by rw [upd_ne ca]; exact e
      have hl1 : (upd H a (.lst [.ref l, .int x, .int ((n : Int) + 1), .int z])) l = some (.lst (ns.map V.int)) := by rw [upd_ne ne.symm]; exact h2
      refine ⟨_, rfl, a, _, 1, _, rfl, rfl, SqL.of upd_same, rfl, rfl, _, rfl, ifD_2 (fun hx0 => ?_) (fun _ => iteF ?_)⟩
      · refine ⟨_, rfl, a, _, 0, _, rfl, rfl, SqL.of upd_same, rfl, Nat.zero_le _, fun p hp => ?_⟩
        have npa : a ≠ p := fun e => by rw [← e, upd_same] at hp; cases hp
        have npl : l ≠ p := ne_of_none hl1 hp
        have kp2 : Keep a l H (upd (upd H a (.lst [.ref l, .int x, .int ((n : Int) + 1), .int z])) p (.lst [])) := fun c o ca cl e => by
          rw [upd_ne (ne_of_none (kp1 c o ca cl e) hp)]; exact kp1 c o ca cl e
        refine ⟨.list (ns.map PyData.int), .list [], .lst (SqL.of (by rw [upd_ne npl]; exact hl1)) (dp_ints ns), .lst (SqL.of upd_same) .nil, ints_shaped ns, ints_shaped [], _, rfl, ?_⟩
        rw [ints_nil]
        cases ns with
        | nil => exact iteF ⟨rfl, [], x, z, by rw [upd_ne npa, upd_same], by rw [upd_ne npl]; exact hl1, Nat.zero_le _, hx, hz0, hz1, kp2⟩
        | cons y ys =>
          refine iteT ?_
          have ga : (upd (upd H a (.lst [.ref l, .int x, .int ((n : Int) + 1), .int z])) p (.lst [])) a = some (.lst [.ref l, .int x, .int ((n : Int) + 1), .int z]) := by rw [upd_ne npa, upd_same]
          have gl : (upd (upd H a (.lst [.ref l, .int x, .int ((n : Int) + 1), .int z])) p (.lst [])) l = some (.lst ((y :: ys).map V.int)) := by rw [upd_ne npl]; exact hl1
          generalize (upd (upd H a (.lst [.ref l, .int x, .int ((n : Int) + 1), .int z])) p (.lst [])) = Hb at ga gl kp2
          refine ⟨_, rfl, a, _, 0, _, rfl, rfl, SqL.of ga, rfl, .inl ⟨rfl, _, SqL.of gl⟩, l, _, 0, 0, .int y, rfl, rfl, gl, by decide, by decide, (ixN_seq (Evl.ixN_nat (j := 0) (by simp))).1, rfl, ?_⟩
          have ga2 : (upd Hb l (.lst (((y :: ys).map V.int).eraseIdx 0))) a = some (.lst [.ref l, .int x, .int ((n : Int) + 1), .int z]) := by rw [upd_ne ne]; exact ga
          refine ⟨_, rfl, a, _, 1, 1, rfl, rfl, ga2, rfl, ?_⟩
          have kp3 : ∀ o, Keep a l H (upd (upd Hb l (.lst (((y :: ys).map V.int).eraseIdx 0))) a o) := fun o c u ca cl e => by rw [upd_ne ca, upd_ne cl]; exact kp2 c u ca cl e
          have gl3 : ∀ o, (upd (upd Hb l (.lst (((y :: ys).map V.int).eraseIdx 0))) a o) l = some (.lst (ys.map V.int)) := fun o => by rw [upd_ne ne.symm, upd_same]; rfl
          have hys : ys.length ≤ 63 := Nat.le_trans (Nat.le_succ _) hl
          refine ⟨_, rfl, a, _, 1, _, rfl, rfl, SqL.of upd_same, rfl, 10, 18, rfl, rfl, (by show CPow 10 18; unfold CPow; decide), _, _, rfl, rfl, _, rfl, ifD_2 (fun hy => ?_) (fun hy => ?_)⟩
          · refine ⟨_, rfl, a, _, 3, _, rfl, rfl, SqL.of upd_same, rfl, _, _, rfl, rfl, .inr (by decide), _, rfl, a, _, 1, _, rfl, rfl, SqL.of upd_same, rfl, _, _, rfl, rfl, _, _, rfl, rfl, .inl ⟨_, rfl, _, _, rfl, rfl, (by show (0 : Int) < 2147483647; decide), _, rfl, a, _, 3, 3, rfl, rfl, upd_same, rfl, ?_⟩⟩
            refine ⟨_, rfl, a, _, 1, 1, rfl, rfl, upd_same, rfl, ?_⟩
            rw [upd_upd, upd_upd]
            exact ⟨rfl, ys, 0, (z * 31 + y + 7) % 2147483647, upd_same, gl3 _, hys, by decide, Int.emod_nonneg _ (by decide), Int.emod_lt_of_pos _ (by decide), kp3 _⟩
          · exact ⟨rfl, ys, y, z, upd_same, gl3 _, hys, by
              have h18 : (0 : Int) ≤ 10 ^ (18 : Int).toNat := by decide
              omega, hz0, hz1, kp3 _⟩
      · exact ⟨rfl, ns, x, z, upd_same, hl1, hl, hx, hz0, hz1, kp1⟩
    rintro _ H1 ⟨rfl, ns', x', z', g1, g2, gl, gx, gz0, gz1, kp⟩
    refine ⟨_, rfl, a, _, 1, _, rfl, rfl, SqL.of g1, rfl, _, _, rfl, rfl, _, rfl, ifD_2 (fun hp => ?_) (fun _ => ?_)⟩
    · refine ⟨_, rfl, a, _, 1, _, rfl, rfl, SqL.of g1, rfl, .inl ⟨_, rfl, _, rfl, _, _, rfl, rfl, hm, ?_⟩⟩
      refine ⟨_, rfl, a, _, 1, _, rfl, rfl, SqL.of g1, rfl, _, rfl, _, _, rfl, rfl, hW _, _, rfl, a, _, 1, 1, rfl, rfl, g1, rfl, _, rfl, ?_⟩
      refine k (x' % many) _ (Int.emod_nonneg _ (by omega)) (Int.emod_lt_of_pos _ hm) ⟨ne, ns', x' / many, z', upd_same, by rw [upd_ne ne.symm]; exact g2, gl, Int.ediv_nonneg gx (by omega), gz0, gz1⟩ fun c o ca cl e => by
        rw [upd_ne ca]; exact kp c o ca cl e
    · have hn' : (n : Int) ≤ 100000 := by omega
      have hn0 : (0 : Int) ≤ n := by omega
      refine ⟨_, rfl, a, _, 3, _, rfl, rfl, SqL.of g1, rfl, _, rfl, a, _, 2, _, rfl, rfl, SqL.of g1, rfl, _, _, rfl, rfl, .inl (by decide), _, _, rfl, rfl, _, _, rfl, rfl, _, _, rfl, rfl, ?_, _, _, rfl, rfl, (by show (0 : Int) < 2147483629; decide), ?_⟩
      · show CPow _ 5
        refine ⟨by decide, by decide, ?_⟩
        have e64 : (2 : Nat) ^ 64 = 18446744073709551616 := by decide
        rw [e64]
        omega
      · generalize hmx : ((z' + 104729 * ((n : Int) + 1) + 17) ^ (5 : Int).toNat) % 2147483629 = mx
        have m0 : 0 ≤ mx := by rw [← hmx]; exact Int.emod_nonneg _ (by decide)
        have m1 : mx < 2147483629 := by rw [← hmx]; exact Int.emod_lt_of_pos _ (by decide)
        refine ⟨_, rfl, _, _, rfl, rfl, .inr (by decide), _, rfl, a, _, 2, _, rfl, rfl, SqL.of g1, rfl, _, _, rfl, rfl, .inl (by decide), _, rfl, a, _, 2, _, rfl, rfl, SqL.of g1, rfl, _, _, rfl, rfl, .inr ?_, _, _, rfl, rfl, _, _, rfl, rfl, _, _, rfl, rfl, ?_, _, _, rfl, rfl, (by show (0 : Int) < 1000000007; decide), _, rfl, _, _, rfl, rfl, hm, ?_⟩
        · have e64 : (2 : Int) ^ 64 = 18446744073709551616 := by decide
          rw [e64]
          omega
        · show CPow _ 3
          refine ⟨by decide, by decide, ?_⟩
          have e64 : (2 : Nat) ^ 64 = 18446744073709551616 := by decide
          rw [e64]
          have q0 : 0 ≤ 40503 * ((n : Int) + 1) * ((n : Int) + 1) := Int.mul_nonneg (by omega) (by omega)
          have q1 : 40503 * ((n : Int) + 1) * ((n : Int) + 1) ≤ 40503 * 100001 * 100001 := Int.mul_le_mul (by omega) (by omega) (by omega) (by decide)
          omega
        · exact k _ _ (Int.emod_nonneg _ (by omega)) (Int.emod_lt_of_pos _ hm) ⟨ne, ns', x', z', g1, g2, gl, gx, gz0, gz1⟩ kp
end
theorem sm9000 {x : Int} {n : Nat} (h : Sm n x) (hn : n ≤ 9000) : Sm 9000 x := h.mono hn
theorem sm_small {x : Int} (h : x.natAbs < 8) : Sm 9000 x := sm9000 (n := 3) h (by decide)
def spStart (K : PySem.W.Frag) : Sp := fun vs H Q _ => ∃ (p : Addr) (ns : List Int), vs = [.ref p] ∧ SqL K H p (ns.map V.int) ∧ ns.length ≤ 63 ∧ ∀ (a l : Addr) (H' : Hp), StreamAt H' a l 0 → H a = none → H l = none → Same H H' → Q (.ref a) H'
section
variable {P : Program} {w : World} {K : PySem.W.Frag} {mg : Str → Option Value} {base : Heap} {C : Addr}
theorem scStart : FnScope ["_law_script"] ["_law_script"] (defScope sStart) := ⟨rfl, rfl, rfl, by decide +kernel, rfl, by decide +kernel, by decide +kernel⟩
theorem ok_start {f : Addr} {fd : FuncData} (F : Fun K "_law_start" "_law_start" sStart f fd) (T : Txt K mg C) : FnOk P w K mg base CX0 1 f fd ["_law_script"] (spStart K) := by
  refine F.ok scStart (fun vs H Q E h => ?_) (fun cdv A outer s H vs Q E hr h => ?_)
  · obtain ⟨p, ns, rfl, _⟩ := h
    rfl
  · obtain ⟨p, ns, rfl, hS, hl, k⟩ := h
    refine ⟨_, pss_one (ps_ret (pe_lst (pa_cons (pe_callTy call_list_of (by rfl) T.list_ boot_list' (pa_cons (pv 0) pa_nil)) (pa_cons pe_int (pa_cons pe_int (pa_cons pe_int pa_nil)))))), ?_⟩
    refine ⟨_, rfl, p, _, rfl, .inl hS, fun l hl' => ⟨by show 4 ≤ sizeLine; decide, fun a ha => ?_⟩⟩
    have nal : a ≠ l := fun e => by rw [e, upd_same] at ha; cases ha
    have ha0 : H a = Option.none := by rw [upd_ne nal] at ha; exact ha
    exact k a l _ ⟨nal, ns, 0, 0, upd_same, by rw [upd_ne nal.symm, upd_same], hl, by decide, by decide, by decide⟩ ha0 hl' ((new_ hl').trans (new_ ha))
end
theorem StreamAt.ne {H : Hp} {a l p : Addr} {n : Nat} (S : StreamAt H a l n) (h : H p = none) : p ≠ a ∧ p ≠ l := by
  obtain ⟨ne, ns, x, z, h1, h2, _⟩ := S
  exact ⟨(ne_of_none h1 h).symm, (ne_of_none h2 h).symm⟩
theorem sm48 {z : Int} (h1 : 1 ≤ z) (h2 : z ≤ 48) : Sm 9000 z := by
  refine sm9000 (n := 6) ?_ (by decide)
  have e : (2 : Nat) ^ 6 = 64 := by decide
  show z.natAbs < 2 ^ 6
  rw [e]
  omega
theorem StreamAt.at_ {H : Hp} {a l : Addr} {n m : Nat} (S : StreamAt H a l n) (e : n = m) : StreamAt H a l m := e ▸ S
theorem StreamAt.lst {H : Hp} {a l p : Addr} {n : Nat} {xs ys : List V} (S : StreamAt H a l n) (hp : H p = some (.lst xs)) (pa : p ≠ a) (pl : p ≠ l) : StreamAt (upd H p (.lst ys)) a l n := by
  obtain ⟨ne, ns, x, z, h1, h2, h3⟩ := S
  exact ⟨ne, ns, x, z, by rw [upd_ne pa.symm]; exact h1, by rw [upd_ne pl.symm]; exact h2, h3⟩

def spPick : Sp := fun vs H Q _ => ∃ (a l L : Addr) (n : Nat) (xs : List V), vs = [.ref a, .ref L] ∧ StreamAt H a l n ∧ n ≤ 20000 ∧ H L = some (.lst xs) ∧ L ≠ a ∧ L ≠ l ∧ 1 ≤ xs.length ∧ xs.length ≤ 48 ∧
  ∀ (i : Nat) (x : V) (H' : Hp), xs[i]? = some x → StreamAt H' a l (n + 1) → Keep a l H H' → Q x H'
section
variable {P : Program} {w : World} {K : PySem.W.Frag} {mg : Str → Option Value} {base : Heap} {C : Addr}
theorem scPick : FnScope ["_law_stream", "_law_some"] ["_law_stream", "_law_some"] (defScope sPick) := ⟨rfl, rfl, rfl, by decide +kernel, rfl, by decide +kernel, by decide +kernel⟩
theorem ok_pick {f g : Addr} {fd gd : FuncData} (F : Fun K "_law_pick" "_law_pick" sPick f fd) (T : Txt K mg C) (D : Df K mg "_law_draw" sDraw g gd ["_law_stream", "_law_many"]) : FnOk P w K mg base CX0 2 f fd ["_law_stream", "_law_some"] spPick := by
  have G : FnOk P w K mg base CX0 1 g gd ["_law_stream", "_law_many"] spDraw := ok_draw D.F T
  refine F.ok scPick (fun vs H Q E h => ?_) (fun cdv A outer s H vs Q E hr h => ?_)
  · obtain ⟨a, l, L, n, _, rfl, _⟩ := h
    rfl
  · obtain ⟨a, l, L, n, xs, rfl, S0, hn, hL, La, Ll, h1, h48, kk⟩ := h
    refine ⟨_, pss_one (ps_ret (pe_ix ix_list (pv 1) (pe_call G hr rfl D.M D.F.kp D.B .nil pass0 (pa_cons (pv 0) (pa_cons (pe_callB call_len_seq (by rfl) T.len_ PySem.boot_len (pa_cons (pv 1) pa_nil)) pa_nil))) (fun _ _ => rfl))), ?_⟩
    refine ⟨_, rfl, _, rfl, _, rfl, L, xs, rfl, .inl (SqL.of hL), a, l, n, _, rfl, S0, by omega, by omega, sm48 (by omega) (by omega), fun r H1 r0 r1 S1 kp1 => ?_⟩
    have hi : r.toNat < xs.length := by omega
    have hx : xs[r.toNat]? = some xs[r.toNat] := List.getElem?_eq_getElem hi
    have ha := atI_nat hx
    rw [Int.toNat_of_nonneg r0] at ha
    exact ⟨L, xs, r, _, rfl, rfl, SqL.of (kp1 _ _ La Ll hL), ha, kk _ _ H1 hx S1 kp1⟩
end
end PA

set_option maxHeartbeats 4000000
namespace PA
open PySem L2 RZ
/-! ### a comprehension over zip -/
section
variable {K : PySem.W.Frag} {a b : Addr} {xs ys : List V} {g : TG} {tt : TT} {te : TE} {vs : List Nat} {σ : L2.St} {H1 : Hp} {D : Addr} {Qd : Hp → Prop}
theorem lc_zipL (hl : xs.length = ys.length) (Pv : Nat → Hp → Prop) (h0 : Pv 0 (upd H1 D (.lst []))) (hq : ∀ i H, Pv i H → SqL K H a xs ∧ SqL K H b ys)
    (hs : ∀ (i : Nat) (x y : V) (T : Addr) (H : Hp), xs[i]? = some x → ys[i]? = some y → Pv i H → H T = none → g (.ref T) (wipe σ vs) (upd H T (.tup [x, y])) fun σ2 H2 => wipe σ2 vs = wipe σ vs ∧ tt σ2 H2 fun c H3 =>
      if c = true then te σ2 H3 fun z H4 => ∃ acc, H4 D = some (.lst acc) ∧ acc.length < sizeLine ∧ Pv (i + 1) (upd H4 D (.lst (acc ++ [z]))) else Pv (i + 1) H3) (hd : ∀ H, Pv xs.length H → Qd H) :
    ∃ W : Nat → Nat → Hp → Prop, (∃ m, W 0 m (upd H1 D (.lst []))) ∧ ∀ i m H, W i m H →
      ((Itz K a b).stop i H ∧ Qd H) ∨ ((Itz K a b).go i H ∧ ∃ Nx : Hp → Prop, (∀ H', Nx H' → ∃ m', m' < m ∧ W (i + 1) m' H') ∧ ∀ x H', (Itz K a b).yld i H x H' → g x (wipe σ vs) H' fun σ2 H2 => wipe σ2 vs = wipe σ vs ∧ tt σ2 H2 fun c H3 =>
        if c = true then te σ2 H3 fun z H4 => ∃ acc, H4 D = some (.lst acc) ∧ acc.length < sizeLine ∧ Nx (upd H4 D (.lst (acc ++ [z]))) else Nx H3) := by
  refine ⟨fun i m H => m = xs.length - i ∧ i ≤ xs.length ∧ Pv i H, ⟨xs.length, rfl, Nat.zero_le _, h0⟩, ?_⟩
  rintro i m H ⟨rfl, hi, p⟩
  obtain ⟨qx, qy⟩ := hq i H p
  by_cases hlt : i < xs.length
  · have hx : xs[i]? = some xs[i] := List.getElem?_eq_getElem hlt
    have hlt2 : i < ys.length := by omega
    have hy : ys[i]? = some ys[i] := List.getElem?_eq_getElem hlt2
    refine .inr ⟨⟨xs, ys, _, _, qx, qy, hx, hy⟩, Pv (i + 1), fun H' p' => ⟨xs.length - (i + 1), by omega, rfl, hlt, p'⟩, fun v H' y => ?_⟩
    obtain ⟨T, x', y', rfl, hT, rfl, f1, f2⟩ := y
    exact hs i x' y' T H (f1 xs qx) (f2 ys qy) p hT
  · have e : i = xs.length := by omega
    subst e
    exact .inl ⟨⟨xs, ys, qx, qy, Or.inl (Nat.le_refl _)⟩, hd H p⟩
theorem lc_zipT (hl : xs.length = ys.length) (Pv : Nat → Hp → Prop) (h0 : Pv 0 (upd H1 D (.lst []))) (hq : ∀ i H, Pv i H → SqT K H a xs ∧ SqT K H b ys)
    (hs : ∀ (i : Nat) (x y : V) (T : Addr) (H : Hp), xs[i]? = some x → ys[i]? = some y → Pv i H → H T = none → g (.ref T) (wipe σ vs) (upd H T (.tup [x, y])) fun σ2 H2 => wipe σ2 vs = wipe σ vs ∧ tt σ2 H2 fun c H3 =>
      if c = true then te σ2 H3 fun z H4 => ∃ acc, H4 D = some (.lst acc) ∧ acc.length < sizeLine ∧ Pv (i + 1) (upd H4 D (.lst (acc ++ [z]))) else Pv (i + 1) H3) (hd : ∀ H, Pv xs.length H → Qd H) :
    ∃ W : Nat → Nat → Hp → Prop, (∃ m, W 0 m (upd H1 D (.lst []))) ∧ ∀ i m H, W i m H →
      ((ItzT K a b).stop i H ∧ Qd H) ∨ ((ItzT K a b).go i H ∧ ∃ Nx : Hp → Prop, (∀ H', Nx H' → ∃ m', m' < m ∧ W (i + 1) m' H') ∧ ∀ x H', (ItzT K a b).yld i H x H' → g x (wipe σ vs) H' fun σ2 H2 => wipe σ2 vs = wipe σ vs ∧ tt σ2 H2 fun c H3 =>
        if c = true then te σ2 H3 fun z H4 => ∃ acc, H4 D = some (.lst acc) ∧ acc.length < sizeLine ∧ Nx (upd H4 D (.lst (acc ++ [z]))) else Nx H3) := by
  refine ⟨fun i m H => m = xs.length - i ∧ i ≤ xs.length ∧ Pv i H, ⟨xs.length, rfl, Nat.zero_le _, h0⟩, ?_⟩
  rintro i m H ⟨rfl, hi, p⟩
  obtain ⟨qx, qy⟩ := hq i H p
  by_cases hlt : i < xs.length
  · have hx : xs[i]? = some xs[i] := List.getElem?_eq_getElem hlt
    have hlt2 : i < ys.length := by omega
    have hy : ys[i]? = some ys[i] := List.getElem?_eq_getElem hlt2
    refine .inr ⟨⟨xs, ys, _, _, qx, qy, hx, hy⟩, Pv (i + 1), fun H' p' => ⟨xs.length - (i + 1), by omega, rfl, hlt, p'⟩, fun v H' y => ?_⟩
    obtain ⟨T, x', y', rfl, hT, rfl, f1, f2⟩ := y
    exact hs i x' y' T H (f1 xs qx) (f2 ys qy) p hT
  · have e : i = xs.length := by omega
    subst e
    exact .inl ⟨⟨xs, ys, qx, qy, Or.inl (Nat.le_refl _)⟩, hd H p⟩
end
/-! ### two values that are the same, to the depth n: ints, bools, lists and tuples of such -/
inductive Two (K : PySem.W.Frag) (H : Hp) : Nat → V → V → Prop where
  | bl (n : Nat) (b : Bool) : Two K H n (.bl b) (.bl b)
  | int (n : Nat) (i : Int) : Two K H n (.int i) (.int i)
  | non (n : Nat) : Two K H n .non .non
  | str (n : Nat) (x : Str) : Two K H n (.str x) (.str x)
  | lst {n : Nat} {a b : Addr} {xs ys : List V} (ha : H a = some (.lst xs)) (hb : H b = some (.lst ys)) (hl : xs.length = ys.length) (hsz : xs.length ≤ sizeLine) (hi : ∀ (i : Nat) (x y : V), xs[i]? = some x → ys[i]? = some y → Two K H n x y) : Two K H (n + 1) (.ref a) (.ref b)
  | tup {n : Nat} {a b : Addr} {xs ys : List V} (ha : SqT K H a xs) (hb : SqT K H b ys) (hl : xs.length = ys.length) (hsz : xs.length ≤ sizeLine) (hi : ∀ (i : Nat) (x y : V), xs[i]? = some x → ys[i]? = some y → Two K H n x y) : Two K H (n + 1) (.ref a) (.ref b)
theorem Two.same {K : PySem.W.Frag} {H H' : Hp} {n : Nat} {x y : V} (t : Two K H n x y) (s : Same H H') : Two K H' n x y := by
  induction t with
  | bl n b => exact .bl n b
  | int n i => exact .int n i
  | non n => exact .non n
  | str n x => exact .str n x
  | lst ha hb hl hz _ ih => exact .lst (s _ _ ha) (s _ _ hb) hl hz ih
  | tup ha hb hl hz _ ih => exact .tup (SqT.up ha s) (SqT.up hb s) hl hz ih
theorem tyT {K : PySem.W.Frag} {H : Hp} {a : Addr} {xs : List V} (h : SqT K H a xs) : TyX K H (.ref a) (.type "tuple") := by
  rcases h with (h | ⟨ob, h⟩) | ⟨o, its, n, h1, h2, _⟩
  · exact .base (.tup h)
  · exact .fTuple h
  · exact .kTuple h1 h2
def spSame (K : PySem.W.Frag) (n : Nat) : Sp := fun vs H Q _ => ∃ x y, vs = [x, y] ∧ Two K H n x y ∧ ∀ H', Same H H' → Q (.bl true) H'
section
variable {P : Program} {w : World} {K : PySem.W.Frag} {mg : Str → Option Value} {base : Heap} {C : Addr}
theorem scSame : FnScope ["_law_found", "_law_due", "_law_one", "_law_other"] ["_law_found", "_law_due"] (defScope sSame) := ⟨rfl, rfl, rfl, by decide +kernel, rfl, by decide +kernel, by decide +kernel⟩
theorem kit2 {t : String} {b1 b2 r : Bool} (h1 : kitB t "list" = some b1) (h2 : kitB t "tuple" = some b2) (hr : (b1 || b2) = r) : PySem.W.kitAny K (.type t) [.type "list", .type "tuple"] = some r := by
  subst hr
  refine kitAny_cons (b := b1) (kit_ty h1) (fun e => ?_) (fun e => by rw [e]; rfl)
  subst e
  refine kitAny_cons (b := b2) (kit_ty h2) (fun e => ?_) (fun e => by rw [e]; rfl)
  subst e
  exact kitAny_nil
theorem kit3 {t : String} (h1 : kitB t "int" = some false) (h2 : kitB t "list" = some false) (h3 : kitB t "tuple" = some false) : PySem.W.kitAny K (.type t) [.type "int", .type "list", .type "tuple"] = some false := by
  refine kitAny_cons (b := false) (kit_ty h1) (fun _ => ?_) (fun e => by cases e)
  refine kitAny_cons (b := false) (kit_ty h2) (fun _ => ?_) (fun e => by cases e)
  refine kitAny_cons (b := false) (kit_ty h3) (fun _ => ?_) (fun e => by cases e)
  exact kitAny_nil
theorem ok_same {f : Addr} {fd : FuncData} (D : Df K mg "_law_same" sSame f fd ["_law_found", "_law_due"]) (T : Txt K mg C) : ∀ n : Nat, FnOk P w K mg base CX0 (n + 1) f fd ["_law_found", "_law_due"] (spSame K n) := by
  have hlen : ∀ n, ∀ vs H Q E, spSame K n vs H Q E → vs.length = (["_law_found", "_law_due"] : List Str).length := fun n vs H Q E h => by
    obtain ⟨x, y, rfl, _⟩ := h
    rfl
  intro n
  induction n with
  | zero =>
    refine D.F.ok scSame (hlen 0) (fun cdv A outer s H vs Q E hr h => ?_)
    obtain ⟨x, y, rfl, t, k⟩ := h
    cases t with
    | int _ i =>
      refine ⟨_, pss_cons (ps_if (pt_val (pe_callB call_isiT (by rfl) T.isi boot_isi (pa_cons (pv 1) (pa_cons (pe_tup (pa_cons (pe_bltn (v := .ty "list") (by rfl) T.list_ boot_list' rfl) (pa_cons (pe_bltn (v := .ty "tuple") (by rfl) T.tup_ boot_tuple' rfl) pa_nil))) pa_nil)))) pss_never pss_nil)
      (pss_cons (ps_if (pt_val (pe_callB call_isi (by rfl) T.isi boot_isi (pa_cons (pv 1) (pa_cons (pe_bltn (v := .ty "int") (by rfl) T.int_ boot_int' rfl) pa_nil))))
        (pss_one (ps_ret (pe_and (pe_callB call_isi (by rfl) T.isi boot_isi (pa_cons (pv 0) (pa_cons (pe_bltn (v := .ty "int") (by rfl) T.int_ boot_int' rfl) pa_nil)))
          (pe_and (pe_cmpR op_eq (pe_callB call_isi (by rfl) T.isi boot_isi (pa_cons (pv 0) (pa_cons (pe_bltn (v := .ty "bool") (by rfl) T.bool_ boot_bool' rfl) pa_nil))) (pe_callB call_isi (by rfl) T.isi boot_isi (pa_cons (pv 1) (pa_cons (pe_bltn (v := .ty "bool") (by rfl) T.bool_ boot_bool' rfl) pa_nil))) (nomark _))
            (pe_one (pe_cmpR op_eq (pv 0) (pv 1) (nomark _))))))) pss_nil) pss_never), ?_⟩
      refine ⟨_, rfl, by show 2 ≤ sizeLine; decide, fun tp htp => ⟨_, tp, _, _, [.type "list", .type "tuple"], _, rfl, upd_same, .cons (.ty _) (.cons (.ty _) .nil), .base (.int i), kit2 (b1 := false) (b2 := false) (by decide +kernel) (by decide +kernel) rfl, _, rfl, iteF ?_⟩⟩
      refine ⟨_, rfl, _, _, _, _, _, rfl, .ty _, .base (.int i), kit_ty (b := "int") (r := true) (by decide +kernel), _, rfl, iteT ?_⟩
      refine ⟨_, rfl, _, _, _, _, _, rfl, .ty _, .base (.int i), kit_ty (b := "int") (r := true) (by decide +kernel), _, rfl, iteT ?_⟩
      refine ⟨_, rfl, _, _, _, _, _, rfl, .ty _, .base (.int i), kit_ty (b := "bool") (r := false) (by decide +kernel), _, rfl, _, _, _, _, _, rfl, .ty _, .base (.int i), kit_ty (b := "bool") (r := false) (by decide +kernel), rfl, _, rfl, ifD_yes rfl ?_⟩
      refine ⟨_, rfl, _, rfl, rfl, ?_⟩
      show Q (V.bl (decide (V.int i = V.int i))) _
      rw [decide_eq_true rfl]
      exact k _ (new_ htp)
    | bl _ b =>
      refine ⟨_, pss_cons (ps_if (pt_val (pe_callB call_isiT (by rfl) T.isi boot_isi (pa_cons (pv 1) (pa_cons (pe_tup (pa_cons (pe_bltn (v := .ty "list") (by rfl) T.list_ boot_list' rfl) (pa_cons (pe_bltn (v := .ty "tuple") (by rfl) T.tup_ boot_tuple' rfl) pa_nil))) pa_nil)))) pss_never pss_nil)
      (pss_cons (ps_if (pt_val (pe_callB call_isi (by rfl) T.isi boot_isi (pa_cons (pv 1) (pa_cons (pe_bltn (v := .ty "int") (by rfl) T.int_ boot_int' rfl) pa_nil))))
        (pss_one (ps_ret (pe_and (pe_callB call_isi (by rfl) T.isi boot_isi (pa_cons (pv 0) (pa_cons (pe_bltn (v := .ty "int") (by rfl) T.int_ boot_int' rfl) pa_nil)))
          (pe_and (pe_cmpR op_eq (pe_callB call_isi (by rfl) T.isi boot_isi (pa_cons (pv 0) (pa_cons (pe_bltn (v := .ty "bool") (by rfl) T.bool_ boot_bool' rfl) pa_nil))) (pe_callB call_isi (by rfl) T.isi boot_isi (pa_cons (pv 1) (pa_cons (pe_bltn (v := .ty "bool") (by rfl) T.bool_ boot_bool' rfl) pa_nil))) (nomark _))
            (pe_one (pe_cmpR op_eq (pv 0) (pv 1) (nomark _))))))) pss_nil) pss_never), ?_⟩
      refine ⟨_, rfl, by show 2 ≤ sizeLine; decide, fun tp htp => ⟨_, tp, _, _, [.type "list", .type "tuple"], _, rfl, upd_same, .cons (.ty _) (.cons (.ty _) .nil), .base (.bl b), kit2 (b1 := false) (b2 := false) (by decide +kernel) (by decide +kernel) rfl, _, rfl, iteF ?_⟩⟩
      refine ⟨_, rfl, _, _, _, _, _, rfl, .ty _, .base (.bl b), kit_ty (b := "int") (r := true) (by decide +kernel), _, rfl, iteT ?_⟩
      refine ⟨_, rfl, _, _, _, _, _, rfl, .ty _, .base (.bl b), kit_ty (b := "int") (r := true) (by decide +kernel), _, rfl, iteT ?_⟩
      refine ⟨_, rfl, _, _, _, _, _, rfl, .ty _, .base (.bl b), kit_ty (b := "bool") (r := true) (by decide +kernel), _, rfl, _, _, _, _, _, rfl, .ty _, .base (.bl b), kit_ty (b := "bool") (r := true) (by decide +kernel), rfl, _, rfl, ifD_yes rfl ?_⟩
      refine ⟨_, rfl, _, rfl, rfl, ?_⟩
      show Q (V.bl (decide (V.bl b = V.bl b))) _
      rw [decide_eq_true rfl]
      exact k _ (new_ htp)
    | non _ =>
      refine ⟨_, pss_cons (ps_if (pt_val (pe_callB call_isiT (by rfl) T.isi boot_isi (pa_cons (pv 1) (pa_cons (pe_tup (pa_cons (pe_bltn (v := .ty "list") (by rfl) T.list_ boot_list' rfl) (pa_cons (pe_bltn (v := .ty "tuple") (by rfl) T.tup_ boot_tuple' rfl) pa_nil))) pa_nil)))) pss_never pss_nil)
      (pss_cons (ps_if (pt_val (pe_callB call_isi (by rfl) T.isi boot_isi (pa_cons (pv 1) (pa_cons (pe_bltn (v := .ty "int") (by rfl) T.int_ boot_int' rfl) pa_nil)))) pss_never pss_nil)
      (pss_one (ps_ret (pe_and (pe_cmpR op_eq (pv 0) (pv 1) (nomark _)) (pe_one (pe_cmpR op_is_bl (pe_callB call_isiT (by rfl) T.isi boot_isi (pa_cons (pv 0) (pa_cons (pe_tup (pa_cons (pe_bltn (v := .ty "int") (by rfl) T.int_ boot_int' rfl) (pa_cons (pe_bltn (v := .ty "list") (by rfl) T.list_ boot_list' rfl) (pa_cons (pe_bltn (v := .ty "tuple") (by rfl) T.tup_ boot_tuple' rfl) pa_nil)))) pa_nil))) pe_bl (nomark _))))))), ?_⟩
      refine ⟨_, rfl, by show 2 ≤ sizeLine; decide, fun tp htp => ⟨_, tp, _, _, [.type "list", .type "tuple"], _, rfl, upd_same, .cons (.ty _) (.cons (.ty _) .nil), .base .non, kit2 (b1 := false) (b2 := false) (by decide +kernel) (by decide +kernel) rfl, _, rfl, iteF ?_⟩⟩
      refine ⟨_, rfl, _, _, _, _, _, rfl, .ty _, .base .non, kit_ty (b := "int") (r := false) (by decide +kernel), _, rfl, iteF ?_⟩
      refine ⟨_, rfl, _, rfl, rfl, _, rfl, ifD_yes rfl ?_⟩
      refine ⟨_, rfl, by show 3 ≤ sizeLine; decide, fun tq htq => ⟨_, tq, _, _, [.type "int", .type "list", .type "tuple"], _, rfl, upd_same, .cons (.ty _) (.cons (.ty _) (.cons (.ty _) .nil)), .base .non, kit3 (by decide +kernel) (by decide +kernel) (by decide +kernel), _, _, rfl, rfl, ?_⟩⟩
      exact k _ ((new_ htp).trans (new_ htq))
    | str _ x =>
      refine ⟨_, pss_cons (ps_if (pt_val (pe_callB call_isiT (by rfl) T.isi boot_isi (pa_cons (pv 1) (pa_cons (pe_tup (pa_cons (pe_bltn (v := .ty "list") (by rfl) T.list_ boot_list' rfl) (pa_cons (pe_bltn (v := .ty "tuple") (by rfl) T.tup_ boot_tuple' rfl) pa_nil))) pa_nil)))) pss_never pss_nil)
      (pss_cons (ps_if (pt_val (pe_callB call_isi (by rfl) T.isi boot_isi (pa_cons (pv 1) (pa_cons (pe_bltn (v := .ty "int") (by rfl) T.int_ boot_int' rfl) pa_nil)))) pss_never pss_nil)
      (pss_one (ps_ret (pe_and (pe_cmpR op_eq (pv 0) (pv 1) (nomark _)) (pe_one (pe_cmpR op_is_bl (pe_callB call_isiT (by rfl) T.isi boot_isi (pa_cons (pv 0) (pa_cons (pe_tup (pa_cons (pe_bltn (v := .ty "int") (by rfl) T.int_ boot_int' rfl) (pa_cons (pe_bltn (v := .ty "list") (by rfl) T.list_ boot_list' rfl) (pa_cons (pe_bltn (v := .ty "tuple") (by rfl) T.tup_ boot_tuple' rfl) pa_nil)))) pa_nil))) pe_bl (nomark _))))))), ?_⟩
      refine ⟨_, rfl, by show 2 ≤ sizeLine; decide, fun tp htp => ⟨_, tp, _, _, [.type "list", .type "tuple"], _, rfl, upd_same, .cons (.ty _) (.cons (.ty _) .nil), .base (.str x), kit2 (b1 := false) (b2 := false) (by decide +kernel) (by decide +kernel) rfl, _, rfl, iteF ?_⟩⟩
      refine ⟨_, rfl, _, _, _, _, _, rfl, .ty _, .base (.str x), kit_ty (b := "int") (r := false) (by decide +kernel), _, rfl, iteF ?_⟩
      refine ⟨_, rfl, _, rfl, rfl, _, rfl, ifD_yes rfl ?_⟩
      refine ⟨_, rfl, by show 3 ≤ sizeLine; decide, fun tq htq => ⟨_, tq, _, _, [.type "int", .type "list", .type "tuple"], _, rfl, upd_same, .cons (.ty _) (.cons (.ty _) (.cons (.ty _) .nil)), .base (.str x), kit3 (by decide +kernel) (by decide +kernel) (by decide +kernel), _, _, rfl, rfl, ?_⟩⟩
      exact k _ ((new_ htp).trans (new_ htq))
  | succ n ih =>
    refine D.F.ok scSame (hlen (n + 1)) (fun cdv A outer s H vs Q E hr h => ?_)
    obtain ⟨x, y, rfl, t, k⟩ := h
    cases t with
    | int _ i =>
      refine ⟨_, pss_cons (ps_if (pt_val (pe_callB call_isiT (by rfl) T.isi boot_isi (pa_cons (pv 1) (pa_cons (pe_tup (pa_cons (pe_bltn (v := .ty "list") (by rfl) T.list_ boot_list' rfl) (pa_cons (pe_bltn (v := .ty "tuple") (by rfl) T.tup_ boot_tuple' rfl) pa_nil))) pa_nil)))) pss_never pss_nil)
      (pss_cons (ps_if (pt_val (pe_callB call_isi (by rfl) T.isi boot_isi (pa_cons (pv 1) (pa_cons (pe_bltn (v := .ty "int") (by rfl) T.int_ boot_int' rfl) pa_nil))))
        (pss_one (ps_ret (pe_and (pe_callB call_isi (by rfl) T.isi boot_isi (pa_cons (pv 0) (pa_cons (pe_bltn (v := .ty "int") (by rfl) T.int_ boot_int' rfl) pa_nil)))
          (pe_and (pe_cmpR op_eq (pe_callB call_isi (by rfl) T.isi boot_isi (pa_cons (pv 0) (pa_cons (pe_bltn (v := .ty "bool") (by rfl) T.bool_ boot_bool' rfl) pa_nil))) (pe_callB call_isi (by rfl) T.isi boot_isi (pa_cons (pv 1) (pa_cons (pe_bltn (v := .ty "bool") (by rfl) T.bool_ boot_bool' rfl) pa_nil))) (nomark _))
            (pe_one (pe_cmpR op_eq (pv 0) (pv 1) (nomark _))))))) pss_nil) pss_never), ?_⟩
      refine ⟨_, rfl, by show 2 ≤ sizeLine; decide, fun tp htp => ⟨_, tp, _, _, [.type "list", .type "tuple"], _, rfl, upd_same, .cons (.ty _) (.cons (.ty _) .nil), .base (.int i), kit2 (b1 := false) (b2 := false) (by decide +kernel) (by decide +kernel) rfl, _, rfl, iteF ?_⟩⟩
      refine ⟨_, rfl, _, _, _, _, _, rfl, .ty _, .base (.int i), kit_ty (b := "int") (r := true) (by decide +kernel), _, rfl, iteT ?_⟩
      refine ⟨_, rfl, _, _, _, _, _, rfl, .ty _, .base (.int i), kit_ty (b := "int") (r := true) (by decide +kernel), _, rfl, iteT ?_⟩
      refine ⟨_, rfl, _, _, _, _, _, rfl, .ty _, .base (.int i), kit_ty (b := "bool") (r := false) (by decide +kernel), _, rfl, _, _, _, _, _, rfl, .ty _, .base (.int i), kit_ty (b := "bool") (r := false) (by decide +kernel), rfl, _, rfl, ifD_yes rfl ?_⟩
      refine ⟨_, rfl, _, rfl, rfl, ?_⟩
      show Q (V.bl (decide (V.int i = V.int i))) _
      rw [decide_eq_true rfl]
      exact k _ (new_ htp)
    | bl _ b =>
      refine ⟨_, pss_cons (ps_if (pt_val (pe_callB call_isiT (by rfl) T.isi boot_isi (pa_cons (pv 1) (pa_cons (pe_tup (pa_cons (pe_bltn (v := .ty "list") (by rfl) T.list_ boot_list' rfl) (pa_cons (pe_bltn (v := .ty "tuple") (by rfl) T.tup_ boot_tuple' rfl) pa_nil))) pa_nil)))) pss_never pss_nil)
      (pss_cons (ps_if (pt_val (pe_callB call_isi (by rfl) T.isi boot_isi (pa_cons (pv 1) (pa_cons (pe_bltn (v := .ty "int") (by rfl) T.int_ boot_int' rfl) pa_nil))))
        (pss_one (ps_ret (pe_and (pe_callB call_isi (by rfl) T.isi boot_isi (pa_cons (pv 0) (pa_cons (pe_bltn (v := .ty "int") (by rfl) T.int_ boot_int' rfl) pa_nil)))
          (pe_and (pe_cmpR op_eq (pe_callB call_isi (by rfl) T.isi boot_isi (pa_cons (pv 0) (pa_cons (pe_bltn (v := .ty "bool") (by rfl) T.bool_ boot_bool' rfl) pa_nil))) (pe_callB call_isi (by rfl) T.isi boot_isi (pa_cons (pv 1) (pa_cons (pe_bltn (v := .ty "bool") (by rfl) T.bool_ boot_bool' rfl) pa_nil))) (nomark _))
            (pe_one (pe_cmpR op_eq (pv 0) (pv 1) (nomark _))))))) pss_nil) pss_never), ?_⟩
      refine ⟨_, rfl, by show 2 ≤ sizeLine; decide, fun tp htp => ⟨_, tp, _, _, [.type "list", .type "tuple"], _, rfl, upd_same, .cons (.ty _) (.cons (.ty _) .nil), .base (.bl b), kit2 (b1 := false) (b2 := false) (by decide +kernel) (by decide +kernel) rfl, _, rfl, iteF ?_⟩⟩
      refine ⟨_, rfl, _, _, _, _, _, rfl, .ty _, .base (.bl b), kit_ty (b := "int") (r := true) (by decide +kernel), _, rfl, iteT ?_⟩
      refine ⟨_, rfl, _, _, _, _, _, rfl, .ty _, .base (.bl b), kit_ty (b := "int") (r := true) (by decide +kernel), _, rfl, iteT ?_⟩
      refine ⟨_, rfl, _, _, _, _, _, rfl, .ty _, .base (.bl b), kit_ty (b := "bool") (r := true) (by decide +kernel), _, rfl, _, _, _, _, _, rfl, .ty _, .base (.bl b), kit_ty (b := "bool") (r := true) (by decide +kernel), rfl, _, rfl, ifD_yes rfl ?_⟩
      refine ⟨_, rfl, _, rfl, rfl, ?_⟩
      show Q (V.bl (decide (V.bl b = V.bl b))) _
      rw [decide_eq_true rfl]
      exact k _ (new_ htp)
    | non _ =>
      refine ⟨_, pss_cons (ps_if (pt_val (pe_callB call_isiT (by rfl) T.isi boot_isi (pa_cons (pv 1) (pa_cons (pe_tup (pa_cons (pe_bltn (v := .ty "list") (by rfl) T.list_ boot_list' rfl) (pa_cons (pe_bltn (v := .ty "tuple") (by rfl) T.tup_ boot_tuple' rfl) pa_nil))) pa_nil)))) pss_never pss_nil)
      (pss_cons (ps_if (pt_val (pe_callB call_isi (by rfl) T.isi boot_isi (pa_cons (pv 1) (pa_cons (pe_bltn (v := .ty "int") (by rfl) T.int_ boot_int' rfl) pa_nil)))) pss_never pss_nil)
      (pss_one (ps_ret (pe_and (pe_cmpR op_eq (pv 0) (pv 1) (nomark _)) (pe_one (pe_cmpR op_is_bl (pe_callB call_isiT (by rfl) T.isi boot_isi (pa_cons (pv 0) (pa_cons (pe_tup (pa_cons (pe_bltn (v := .ty "int") (by rfl) T.int_ boot_int' rfl) (pa_cons (pe_bltn (v := .ty "list") (by rfl) T.list_ boot_list' rfl) (pa_cons (pe_bltn (v := .ty "tuple") (by rfl) T.tup_ boot_tuple' rfl) pa_nil)))) pa_nil))) pe_bl (nomark _))))))), ?_⟩
      refine ⟨_, rfl, by show 2 ≤ sizeLine; decide, fun tp htp => ⟨_, tp, _, _, [.type "list", .type "tuple"], _, rfl, upd_same, .cons (.ty _) (.cons (.ty _) .nil), .base .non, kit2 (b1 := false) (b2 := false) (by decide +kernel) (by decide +kernel) rfl, _, rfl, iteF ?_⟩⟩
      refine ⟨_, rfl, _, _, _, _, _, rfl, .ty _, .base .non, kit_ty (b := "int") (r := false) (by decide +kernel), _, rfl, iteF ?_⟩
      refine ⟨_, rfl, _, rfl, rfl, _, rfl, ifD_yes rfl ?_⟩
      refine ⟨_, rfl, by show 3 ≤ sizeLine; decide, fun tq htq => ⟨_, tq, _, _, [.type "int", .type "list", .type "tuple"], _, rfl, upd_same, .cons (.ty _) (.cons (.ty _) (.cons (.ty _) .nil)), .base .non, kit3 (by decide +kernel) (by decide +kernel) (by decide +kernel), _, _, rfl, rfl, ?_⟩⟩
      exact k _ ((new_ htp).trans (new_ htq))
    | str _ x =>
      refine ⟨_, pss_cons (ps_if (pt_val (pe_callB call_isiT (by rfl) T.isi boot_isi (pa_cons (pv 1) (pa_cons (pe_tup (pa_cons (pe_bltn (v := .ty "list") (by rfl) T.list_ boot_list' rfl) (pa_cons (pe_bltn (v := .ty "tuple") (by rfl) T.tup_ boot_tuple' rfl) pa_nil))) pa_nil)))) pss_never pss_nil)
      (pss_cons (ps_if (pt_val (pe_callB call_isi (by rfl) T.isi boot_isi (pa_cons (pv 1) (pa_cons (pe_bltn (v := .ty "int") (by rfl) T.int_ boot_int' rfl) pa_nil)))) pss_never pss_nil)
      (pss_one (ps_ret (pe_and (pe_cmpR op_eq (pv 0) (pv 1) (nomark _)) (pe_one (pe_cmpR op_is_bl (pe_callB call_isiT (by rfl) T.isi boot_isi (pa_cons (pv 0) (pa_cons (pe_tup (pa_cons (pe_bltn (v := .ty "int") (by rfl) T.int_ boot_int' rfl) (pa_cons (pe_bltn (v := .ty "list") (by rfl) T.list_ boot_list' rfl) (pa_cons (pe_bltn (v := .ty "tuple") (by rfl) T.tup_ boot_tuple' rfl) pa_nil)))) pa_nil))) pe_bl (nomark _))))))), ?_⟩
      refine ⟨_, rfl, by show 2 ≤ sizeLine; decide, fun tp htp => ⟨_, tp, _, _, [.type "list", .type "tuple"], _, rfl, upd_same, .cons (.ty _) (.cons (.ty _) .nil), .base (.str x), kit2 (b1 := false) (b2 := false) (by decide +kernel) (by decide +kernel) rfl, _, rfl, iteF ?_⟩⟩
      refine ⟨_, rfl, _, _, _, _, _, rfl, .ty _, .base (.str x), kit_ty (b := "int") (r := false) (by decide +kernel), _, rfl, iteF ?_⟩
      refine ⟨_, rfl, _, rfl, rfl, _, rfl, ifD_yes rfl ?_⟩
      refine ⟨_, rfl, by show 3 ≤ sizeLine; decide, fun tq htq => ⟨_, tq, _, _, [.type "int", .type "list", .type "tuple"], _, rfl, upd_same, .cons (.ty _) (.cons (.ty _) (.cons (.ty _) .nil)), .base (.str x), kit3 (by decide +kernel) (by decide +kernel) (by decide +kernel), _, _, rfl, rfl, ?_⟩⟩
      exact k _ ((new_ htp).trans (new_ htq))
    | @lst _ a b xs ys ha hb hl hsz hi =>
      refine ⟨_, pss_cons (ps_if (pt_val (pe_callB call_isiT (by rfl) T.isi boot_isi (pa_cons (pv 1) (pa_cons (pe_tup (pa_cons (pe_bltn (v := .ty "list") (by rfl) T.list_ boot_list' rfl) (pa_cons (pe_bltn (v := .ty "tuple") (by rfl) T.tup_ boot_tuple' rfl) pa_nil))) pa_nil))))
      (pss_cons (ps_if (PW.pt (pw_or (pt_cmpR op_ne (pe_callB call_isi (by rfl) T.isi boot_isi (pa_cons (pv 0) (pa_cons (pe_bltn (v := .ty "list") (by rfl) T.list_ boot_list' rfl) pa_nil))) (pe_callB call_isi (by rfl) T.isi boot_isi (pa_cons (pv 1) (pa_cons (pe_bltn (v := .ty "list") (by rfl) T.list_ boot_list' rfl) pa_nil))) (nomark _)) (pw_or1 (pt_cmpR op_ne (pe_callB call_isi (by rfl) T.isi boot_isi (pa_cons (pv 0) (pa_cons (pe_bltn (v := .ty "tuple") (by rfl) T.tup_ boot_tuple' rfl) pa_nil))) (pe_callB call_isi (by rfl) T.isi boot_isi (pa_cons (pv 1) (pa_cons (pe_bltn (v := .ty "tuple") (by rfl) T.tup_ boot_tuple' rfl) pa_nil))) (nomark _))))) pss_never pss_nil)
        (pss_one (ps_ret (pe_and (pe_cmpR op_eq (pe_callB call_len_seq (by rfl) T.len_ PySem.boot_len (pa_cons (pv 0) pa_nil)) (pe_callB call_len_seq (by rfl) T.len_ PySem.boot_len (pa_cons (pv 1) pa_nil)) (nomark _))
          (pe_one (pe_callB (cr_all rfl) (by rfl) T.all_ boot_all' (pa_cons (pe_lc (own := [("_law_one", 2), ("_law_other", 3)]) (g := gTup K 2 (gCons (gName 2) (gCons (gName 3) gNil))) (tt := tYes) (by rfl) scSame.nd (pi_zipA (by rfl) T.zip_ (pa_cons (pv 0) (pa_cons (pv 1) pa_nil))) (blkOk_by (N := ["_law_found", "_law_due", "_law_one", "_law_other"]) (sc := defScope sSame) (by decide +kernel))
            (fun _ _ _ _ _ => by exact pg_tup rfl (pgs_cons (pg_name (i := 2) scSame.nd rfl (Or.inl rfl)) (pgs_cons (pg_name (i := 3) scSame.nd rfl (Or.inl rfl)) pgs_nil))) (fun _ _ _ _ _ => pts_nil)
            (fun _ _ _ _ _ => pe_call ih hr rfl D.M D.F.kp D.B .nil pass0 (pa_cons (pv 2) (pa_cons (pv 3) pa_nil)))) pa_nil))))))) pss_nil) pss_never, ?_⟩
      refine ⟨_, rfl, by show 2 ≤ sizeLine; decide, fun tp htp => ?_⟩
      have s1 : Same H (upd H tp (.tup [.ty "list", .ty "tuple"])) := new_ htp
      have hA := s1 _ _ ha
      have hB := s1 _ _ hb
      refine ⟨_, tp, _, _, [.type "list", .type "tuple"], _, rfl, upd_same, .cons (.ty _) (.cons (.ty _) .nil), .base (.lst hB), kit2 (b1 := true) (b2 := false) (by decide +kernel) (by decide +kernel) rfl, _, rfl, iteT ?_⟩
      refine ⟨_, rfl, _, _, _, _, _, rfl, .ty _, .base (.lst hA), kit_ty (b := "list") (r := true) (by decide +kernel), _, rfl, _, _, _, _, _, rfl, .ty _, .base (.lst hB), kit_ty (b := "list") (r := true) (by decide +kernel), rfl, _, rfl, iteNS rfl ?_⟩
      refine ⟨_, rfl, _, _, _, _, _, rfl, .ty _, .base (.lst hA), kit_ty (b := "tuple") (r := false) (by decide +kernel), _, rfl, _, _, _, _, _, rfl, .ty _, .base (.lst hB), kit_ty (b := "tuple") (r := false) (by decide +kernel), rfl, _, rfl, iteNS rfl ?_⟩
      refine ⟨_, rfl, _, _, rfl, .inl (SqL.of hA), _, rfl, _, _, rfl, .inl (SqL.of hB), rfl, _, rfl, ifD_yes (by rw [hl]) ?_⟩
      refine ⟨_, rfl, _, rfl, _, _, xs, ys, rfl, .inl ⟨SqL.of hA, SqL.of hB, fun Dd hD => ?_⟩⟩
      refine lc_zipL hl (fun i H' => Same (upd H tp (.tup [.ty "list", .ty "tuple"])) H' ∧ H' Dd = some (.lst ((List.replicate i true).map V.bl))) ⟨new_ hD, upd_same⟩ (fun i H' q => ⟨SqL.of (q.1 _ _ hA), SqL.of (q.1 _ _ hB)⟩) ?_ ?_
      · rintro i x y tt H' hx hy ⟨sm, hd⟩ ht
        refine ⟨tt, _, rfl, SqT.of upd_same, rfl, _, _, rfl, _, _, rfl, rfl, rfl, ?_⟩
        dsimp only [tYes]
        rw [if_pos rfl]
        have s2 : Same H' (upd H' tt (.tup [x, y])) := new_ ht
        refine ⟨_, rfl, _, rfl, x, y, rfl, ((hi i x y hx hy).same s1).same (sm.trans s2), fun H2 s3 => ⟨_, s3 _ _ (s2 _ _ hd), ?_, ?_, ?_⟩⟩
        · rw [List.length_map, List.length_replicate]
          exact Nat.lt_of_lt_of_le (List.getElem?_eq_some_iff.mp hx).1 hsz
        · intro c o e
          rw [upd_ne (ne_of_none e hD)]
          exact s3 _ _ (s2 _ _ (sm _ _ e))
        · rw [upd_same, List.replicate_succ', List.map_append]
          rfl
      · rintro H' ⟨sm, hd⟩
        refine ⟨Dd, _, rfl, SqL.of hd, ?_⟩
        have ea : (List.replicate xs.length true).all id = true := by
          rw [List.all_eq_true]
          intro x hx
          rw [(List.mem_replicate.mp hx).2]
          rfl
        rw [ea]
        exact k _ (s1.trans sm)
    | @tup _ a b xs ys ha hb hl hsz hi =>
      refine ⟨_, pss_cons (ps_if (pt_val (pe_callB call_isiT (by rfl) T.isi boot_isi (pa_cons (pv 1) (pa_cons (pe_tup (pa_cons (pe_bltn (v := .ty "list") (by rfl) T.list_ boot_list' rfl) (pa_cons (pe_bltn (v := .ty "tuple") (by rfl) T.tup_ boot_tuple' rfl) pa_nil))) pa_nil))))
      (pss_cons (ps_if (PW.pt (pw_or (pt_cmpR op_ne (pe_callB call_isi (by rfl) T.isi boot_isi (pa_cons (pv 0) (pa_cons (pe_bltn (v := .ty "list") (by rfl) T.list_ boot_list' rfl) pa_nil))) (pe_callB call_isi (by rfl) T.isi boot_isi (pa_cons (pv 1) (pa_cons (pe_bltn (v := .ty "list") (by rfl) T.list_ boot_list' rfl) pa_nil))) (nomark _)) (pw_or1 (pt_cmpR op_ne (pe_callB call_isi (by rfl) T.isi boot_isi (pa_cons (pv 0) (pa_cons (pe_bltn (v := .ty "tuple") (by rfl) T.tup_ boot_tuple' rfl) pa_nil))) (pe_callB call_isi (by rfl) T.isi boot_isi (pa_cons (pv 1) (pa_cons (pe_bltn (v := .ty "tuple") (by rfl) T.tup_ boot_tuple' rfl) pa_nil))) (nomark _))))) pss_never pss_nil)
        (pss_one (ps_ret (pe_and (pe_cmpR op_eq (pe_callB call_len_seq (by rfl) T.len_ PySem.boot_len (pa_cons (pv 0) pa_nil)) (pe_callB call_len_seq (by rfl) T.len_ PySem.boot_len (pa_cons (pv 1) pa_nil)) (nomark _))
          (pe_one (pe_callB (cr_all rfl) (by rfl) T.all_ boot_all' (pa_cons (pe_lc (own := [("_law_one", 2), ("_law_other", 3)]) (g := gTup K 2 (gCons (gName 2) (gCons (gName 3) gNil))) (tt := tYes) (by rfl) scSame.nd (pi_zipA (by rfl) T.zip_ (pa_cons (pv 0) (pa_cons (pv 1) pa_nil))) (blkOk_by (N := ["_law_found", "_law_due", "_law_one", "_law_other"]) (sc := defScope sSame) (by decide +kernel))
            (fun _ _ _ _ _ => by exact pg_tup rfl (pgs_cons (pg_name (i := 2) scSame.nd rfl (Or.inl rfl)) (pgs_cons (pg_name (i := 3) scSame.nd rfl (Or.inl rfl)) pgs_nil))) (fun _ _ _ _ _ => pts_nil)
            (fun _ _ _ _ _ => pe_call ih hr rfl D.M D.F.kp D.B .nil pass0 (pa_cons (pv 2) (pa_cons (pv 3) pa_nil)))) pa_nil))))))) pss_nil) pss_never, ?_⟩
      refine ⟨_, rfl, by show 2 ≤ sizeLine; decide, fun tp htp => ?_⟩
      have s1 : Same H (upd H tp (.tup [.ty "list", .ty "tuple"])) := new_ htp
      have hA := SqT.up ha s1
      have hB := SqT.up hb s1
      refine ⟨_, tp, _, _, [.type "list", .type "tuple"], _, rfl, upd_same, .cons (.ty _) (.cons (.ty _) .nil), tyT hB, kit2 (b1 := false) (b2 := true) (by decide +kernel) (by decide +kernel) rfl, _, rfl, iteT ?_⟩
      refine ⟨_, rfl, _, _, _, _, _, rfl, .ty _, tyT hA, kit_ty (b := "list") (r := false) (by decide +kernel), _, rfl, _, _, _, _, _, rfl, .ty _, tyT hB, kit_ty (b := "list") (r := false) (by decide +kernel), rfl, _, rfl, iteNS rfl ?_⟩
      refine ⟨_, rfl, _, _, _, _, _, rfl, .ty _, tyT hA, kit_ty (b := "tuple") (r := true) (by decide +kernel), _, rfl, _, _, _, _, _, rfl, .ty _, tyT hB, kit_ty (b := "tuple") (r := true) (by decide +kernel), rfl, _, rfl, iteNS rfl ?_⟩
      refine ⟨_, rfl, _, _, rfl, .inr (hA), _, rfl, _, _, rfl, .inr (hB), rfl, _, rfl, ifD_yes (by rw [hl]) ?_⟩
      refine ⟨_, rfl, _, rfl, _, _, xs, ys, rfl, .inr ⟨hA, hB, fun Dd hD => ?_⟩⟩
      refine lc_zipT hl (fun i H' => Same (upd H tp (.tup [.ty "list", .ty "tuple"])) H' ∧ H' Dd = some (.lst ((List.replicate i true).map V.bl))) ⟨new_ hD, upd_same⟩ (fun i H' q => ⟨SqT.up hA q.1, SqT.up hB q.1⟩) ?_ ?_
      · rintro i x y tt H' hx hy ⟨sm, hd⟩ ht
        refine ⟨tt, _, rfl, SqT.of upd_same, rfl, _, _, rfl, _, _, rfl, rfl, rfl, ?_⟩
        dsimp only [tYes]
        rw [if_pos rfl]
        have s2 : Same H' (upd H' tt (.tup [x, y])) := new_ ht
        refine ⟨_, rfl, _, rfl, x, y, rfl, ((hi i x y hx hy).same s1).same (sm.trans s2), fun H2 s3 => ⟨_, s3 _ _ (s2 _ _ hd), ?_, ?_, ?_⟩⟩
        · rw [List.length_map, List.length_replicate]
          exact Nat.lt_of_lt_of_le (List.getElem?_eq_some_iff.mp hx).1 hsz
        · intro c o e
          rw [upd_ne (ne_of_none e hD)]
          exact s3 _ _ (s2 _ _ (sm _ _ e))
        · rw [upd_same, List.replicate_succ', List.map_append]
          rfl
      · rintro H' ⟨sm, hd⟩
        refine ⟨Dd, _, rfl, SqL.of hd, ?_⟩
        have ea : (List.replicate xs.length true).all id = true := by
          rw [List.all_eq_true]
          intro x hx
          rw [(List.mem_replicate.mp hx).2]
          rfl
        rw [ea]
        exact k _ (s1.trans sm)
end
end PA

set_option maxHeartbeats 4000000
namespace PA
open PySem L2 RZ
open C8 (pss_cut tCut)
abbrev sStr : Stmt := inClass (top 30) 6
abbrev sRowsTx : Stmt := top 35
abbrev sRowTx : Stmt := top 36
abbrev sStartsTx : Stmt := top 37
def intS (i : Int) : Str := Str.ofString (toString i)
def fallS (b : Bool) : Str := if b = true then "fall" else "stay"
def goS (b : Bool) : Str := if b = true then "go" else "stay"
def rowTx (r : Rw) : Str := (((((((Str.empty ++ intS r.1) ++ (" " : Str)) ++ fallS r.2.1) ++ (" " : Str)) ++ intS r.2.2.1) ++ (" " : Str)) ++ goS r.2.2.2)
def rowsTx (rows : List Rw) : Str := Txt.join "; " (rows.map rowTx)
def wordsTx (starts : List Int) : Str := Txt.join " " (starts.map intS)
def startsTx (starts : List Int) : Str := if starts = [0] then "" else (Str.empty ++ (" | " : Str)) ++ wordsTx starts
def ruleTx (rows : List Rw) (starts : List Int) : Str := (Str.empty ++ rowsTx rows) ++ startsTx starts
theorem app_le {x y : Str} {m n : Nat} (hx : x.length ≤ m) (hy : y.length ≤ n) : (x ++ y).length ≤ m + n := by
  rw [Str.length_append]
  omega
theorem small_log {i : Int} (h0 : 0 ≤ i) (h1 : i < 48) : i.natAbs.log2 < 1920 := by
  have e : (2 : Nat) ^ 6 = 64 := by decide
  have h : i.natAbs < 2 ^ 6 := by
    rw [e]
    omega
  have h2 : i.natAbs.log2 < 6 := PySem.Flt.log2_lt_of (by decide) h
  exact Nat.lt_of_lt_of_le h2 (by decide)
theorem intS_le {i : Int} (h0 : 0 ≤ i) (h1 : i < 48) : (intS i).length ≤ 1921 := by
  have e := int_text_length_le (k := 1920) (by decide) (small_log h0 h1)
  unfold intS
  rw [ofString_length]
  exact e
theorem fallS_le (b : Bool) : (fallS b).length ≤ 4 := by cases b <;> decide +kernel
theorem goS_le (b : Bool) : (goS b).length ≤ 4 := by cases b <;> decide +kernel
theorem sp_le : (" " : Str).length ≤ 1 := by decide +kernel
theorem em_le : (Str.empty).length ≤ 0 := by decide +kernel
def spRowTx : Sp := fun vs H Q _ => ∃ (c : Addr) (r : Rw), vs = [.ref c] ∧ isT H c r ∧ RwOk 48 r ∧ Q (.str (rowTx r)) H
section
variable {P : Program} {w : World} {K : PySem.W.Frag} {mg : Str → Option Value} {base : Heap} {C : Addr}
theorem scRowTx : FnScope ["row", "next_ahead", "falls", "next_behind", "goes", "first", "second"] ["row"] (defScope sRowTx) := ⟨rfl, rfl, rfl, by decide +kernel, rfl, by decide +kernel, by decide +kernel⟩
theorem ok_rowTx {f : Addr} {fd : FuncData} (F : Fun K "_row_text" "_row_text" sRowTx f fd) : FnOk P w K mg base CX0 1 f fd ["row"] spRowTx := by
  refine F.ok scRowTx (fun vs H Q E h => ?_) (fun cdv A outer s H vs Q E hr h => ?_)
  · obtain ⟨c, _, rfl, _⟩ := h
    rfl
  · obtain ⟨c, ⟨ra, rb, rc, rd⟩, rfl, hc, ⟨⟨a0, a1⟩, c0, c1⟩, kk⟩ := h
    refine ⟨_, pss_cons (ps_asg (pv 0) (pg_tup rfl (pgs_cons (pg_name (i := 1) scRowTx.nd rfl (Or.inl rfl)) (pgs_cons (pg_name (i := 2) scRowTx.nd rfl (Or.inl rfl)) (pgs_cons (pg_name (i := 3) scRowTx.nd rfl (Or.inl rfl)) (pgs_cons (pg_name (i := 4) scRowTx.nd rfl (Or.inl rfl)) pgs_nil))))))
      (pss_cut (ps_set (i := 5) scRowTx.nd rfl (Or.inl rfl) (pe_ifExp (pt_val (pv 2)) pe_str pe_str))
      (pss_cut (ps_set (i := 6) scRowTx.nd rfl (Or.inl rfl) (pe_ifExp (pt_val (pv 4)) pe_str pe_str))
      (pss_one (ps_ret (pe_joined (.cons (pe_fmt (pv 1)) (.cons pe_str (.cons (pe_fmt (pv 5)) (.cons pe_str (.cons (pe_fmt (pv 3)) (.cons pe_str (.cons (pe_fmt (pv 6)) .nil)))))))))))), ?_⟩
    refine ⟨_, rfl, c, _, rfl, SqT.of hc, rfl, _, _, rfl, _, _, rfl, _, _, rfl, _, _, rfl, rfl, ?_⟩
    refine ⟨fun σ' H' => H' = H ∧ σ' = [some (V.ref c), some (V.int ra), some (V.bl rb), some (V.int rc), some (V.bl rd), some (V.str (fallS rb)), none], ?_, ?_⟩
    · refine ⟨_, rfl, rb, rfl, ?_⟩
      cases rb with
      | true => exact iteT ⟨rfl, rfl⟩
      | false => exact iteF ⟨rfl, rfl⟩
    rintro _ H1 ⟨e1, rfl⟩
    subst e1
    refine ⟨fun σ' H' => H' = H1 ∧ σ' = [some (V.ref c), some (V.int ra), some (V.bl rb), some (V.int rc), some (V.bl rd), some (V.str (fallS rb)), some (V.str (goS rd))], ?_, ?_⟩
    · refine ⟨_, rfl, rd, rfl, ?_⟩
      cases rd with
      | true => exact iteT ⟨rfl, rfl⟩
      | false => exact iteF ⟨rfl, rfl⟩
    rintro _ H2 ⟨e2, rfl⟩
    subst e2
    have q1 := app_le em_le (intS_le a0 a1)
    have q2 := app_le q1 sp_le
    have q3 := app_le q2 (fallS_le rb)
    have q4 := app_le q3 sp_le
    have q5 := app_le q4 (intS_le c0 c1)
    have q6 := app_le q5 sp_le
    have q7 := app_le q6 (goS_le rd)
    have big : ∀ {n : Nat}, n ≤ 4000 → n ≤ sizeLine := fun h => Nat.le_trans h (by decide)
    refine ⟨_, rfl, .inr ⟨ra, rfl, small_log a0 a1, _, rfl, big (Nat.le_trans q1 (by decide)), ?_⟩⟩
    refine ⟨_, rfl, big (Nat.le_trans q2 (by decide)), ?_⟩
    refine ⟨_, rfl, .inl ⟨_, rfl, big (Nat.le_trans (fallS_le rb) (by decide)), _, rfl, big (Nat.le_trans q3 (by decide)), ?_⟩⟩
    refine ⟨_, rfl, big (Nat.le_trans q4 (by decide)), ?_⟩
    refine ⟨_, rfl, .inr ⟨rc, rfl, small_log c0 c1, _, rfl, big (Nat.le_trans q5 (by decide)), ?_⟩⟩
    refine ⟨_, rfl, big (Nat.le_trans q6 (by decide)), ?_⟩
    refine ⟨_, rfl, .inl ⟨_, rfl, big (Nat.le_trans (goS_le rd) (by decide)), _, rfl, big (Nat.le_trans q7 (by decide)), ?_⟩⟩
    exact kk
end
end PA

set_option maxHeartbeats 4000000
namespace PA
open PySem L2 RZ
open C8 (pss_cut tCut)
/-- what the texts of rules ask of the module -/
structure TxtS (K : PySem.W.Frag) (mg : Str → Option Value) : Prop where
  str_ : mg "str" = none
  plain : ∃ dp, mg "PLAIN_STARTS" = some (.ref dp) ∧ ∀ H, SqT K H dp [V.int 0]
def spRowsTx : Sp := fun vs H Q _ => ∃ (R : Addr) (refs : List V) (rows : List Rw), vs = [.ref R] ∧ H R = some (.tup refs) ∧ Each H isT refs rows ∧ rows.length ≤ 48 ∧ (∀ r ∈ rows, RwOk 48 r) ∧ ∀ H', Same H H' → Q (.str (rowsTx rows)) H'
def spStartsTx (K : PySem.W.Frag) : Sp := fun vs H Q _ => ∃ (S : Addr) (starts : List Int), vs = [.ref S] ∧ SqT K H S (starts.map V.int) ∧ starts.length ≤ 16 ∧ (∀ s ∈ starts, 0 ≤ s ∧ s < 48) ∧ ∀ H', Same H H' → Q (.str (startsTx starts)) H'
def spStr (K : PySem.W.Frag) (C : Addr) : Sp := fun vs H Q _ => ∃ (p : Addr) (rows : List Rw) (starts : List Int) (k : Int), vs = [.ref p] ∧ RuleAt K C H p rows starts k ∧ rows.length ≤ 48 ∧ (∀ r ∈ rows, RwOk 48 r) ∧ starts.length ≤ 16 ∧ (∀ s ∈ starts, 0 ≤ s ∧ s < 48) ∧ ∀ H', Same H H' → Q (.str (ruleTx rows starts)) H'
theorem rowTx_le {r : Rw} (h : RwOk 48 r) : (rowTx r).length ≤ 4000 := by
  obtain ⟨ra, rb, rc, rd⟩ := r
  obtain ⟨⟨a0, a1⟩, c0, c1⟩ := h
  have q1 := app_le em_le (intS_le a0 a1)
  have q2 := app_le q1 sp_le
  have q3 := app_le q2 (fallS_le rb)
  have q4 := app_le q3 sp_le
  have q5 := app_le q4 (intS_le c0 c1)
  have q6 := app_le q5 sp_le
  have q7 := app_le q6 (goS_le rd)
  exact Nat.le_trans q7 (by decide)
theorem sum_le {m : Nat} : ∀ ys : List Str, (∀ y ∈ ys, y.length ≤ m) → (ys.map (·.length)).sum ≤ ys.length * m
  | [], _ => by simp
  | y :: ys, h => by
    have h1 := sum_le ys fun z hz => h z (List.mem_cons_of_mem _ hz)
    have h2 := h y List.mem_cons_self
    simp only [List.map_cons, List.sum_cons, List.length_cons, Nat.add_mul, Nat.one_mul]
    omega
section
variable {P : Program} {w : World} {K : PySem.W.Frag} {mg : Str → Option Value} {base : Heap} {C : Addr}
theorem scRowsTx : FnScope ["rows", "row"] ["rows"] (defScope sRowsTx) := ⟨rfl, rfl, rfl, by decide +kernel, rfl, by decide +kernel, by decide +kernel⟩
theorem ok_rowsTx {f g : Addr} {fd gd : FuncData} (F : Fun K "_rows_text" "_rows_text" sRowsTx f fd) (D : Df K mg "_row_text" sRowTx g gd ["row"]) : FnOk P w K mg base CX0 2 f fd ["rows"] spRowsTx := by
  have G : FnOk P w K mg base CX0 1 g gd ["row"] spRowTx := ok_rowTx D.F
  refine F.ok scRowsTx (fun vs H Q E h => ?_) (fun cdv A outer s H vs Q E hr h => ?_)
  · obtain ⟨R, _, _, rfl, _⟩ := h
    rfl
  · obtain ⟨R, refs, rows, rfl, hR, hE, h48, hok, kk⟩ := h
    have hlr : refs.length = rows.length := hE.1
    refine ⟨_, pss_one (ps_ret (pe_join pe_str (pe_lc (own := [("row", 1)]) (g := gName 1) (tt := tYes) (by rfl) scRowsTx.nd (pi_tup (pv 0)) (blkOk_by (N := ["rows", "row"]) (sc := defScope sRowsTx) (by decide +kernel))
          (fun _ _ _ _ _ => pg_name (i := 1) scRowsTx.nd rfl (Or.inl rfl)) (fun _ _ _ _ _ => pts_nil)
          (fun _ _ _ _ _ => pe_call G hr rfl D.M D.F.kp D.B .nil pass0 (pa_cons (pv 1) pa_nil))))), ?_⟩
    refine ⟨⟨_, rfl⟩, _, rfl, R, rfl, ⟨_, SqT.of hR⟩, fun Dd hD => ?_⟩
    refine lc_tup (K := K) (a := R) (xs := refs) (fun i H' => Same H H' ∧ H' Dd = some (.lst (((rows.take i).map rowTx).map V.str))) ⟨Same.new hD, by rw [List.take_zero]; exact upd_same⟩ (fun i H' _ q => SqT.of (q.1 _ _ hR)) ?_ ?_
    · rintro i x H' hx ⟨sm, hd⟩
      have hi : i < rows.length := by rw [← hlr]; exact (List.getElem?_eq_some_iff.mp hx).1
      have hr' : rows[i]? = some rows[i] := List.getElem?_eq_getElem hi
      obtain ⟨c, rfl, hc⟩ := hE.2 i x _ hx hr'
      refine ⟨rfl, ?_⟩
      dsimp only [tYes]
      rw [if_pos rfl]
      refine ⟨_, rfl, c, rows[i], rfl, sm _ _ hc, hok _ (List.getElem_mem hi), _, hd, ?_, ?_, ?_⟩
      · rw [List.length_map, List.length_map, List.length_take]
        exact Nat.lt_of_le_of_lt (Nat.le_trans (Nat.min_le_left _ _) (Nat.le_of_lt hi)) (Nat.lt_of_le_of_lt h48 (by decide))
      · intro c' o e
        rw [upd_ne (ne_of_none e hD)]
        exact sm _ _ e
      · rw [upd_same, take_succ' hr', List.map_append, List.map_append]
        rfl
    · rintro H1 ⟨s1, hd⟩
      rw [hlr, List.take_length] at hd
      refine ⟨_, Dd, rows.map rowTx, rfl, rfl, .inl (SqL.of hd), ?_, kk H1 s1⟩
      have h1 := sum_le (m := 4000) (rows.map rowTx) fun y hy => by
        obtain ⟨r, hr, rfl⟩ := List.mem_map.mp hy
        exact rowTx_le (hok r hr)
      rw [List.length_map] at h1 ⊢
      have h2 : ("; " : Str).length = 2 := by decide +kernel
      rw [h2]
      omega
end
end PA

set_option maxHeartbeats 4000000
namespace PA
open PySem L2 RZ
open C8 (pss_cut tCut)
theorem intsT_shaped (ns : List Int) : SeqAt.shaped (.tuple (ns.map PyData.int)) = true := by
  have h1 := ints_depth ns
  have h2 : PyData.depth (.tuple (ns.map PyData.int)) ≤ 64 := by
    simp only [PyData.depth]
    omega
  show (PyData.canLay0 (.tuple (ns.map PyData.int)) && decide (PyData.depth (.tuple (ns.map PyData.int)) ≤ 64)) = true
  rw [Bool.and_eq_true]
  exact ⟨by simp only [PyData.canLay0]; exact ints_lay ns, decide_eq_true h2⟩
theorem intsT_zero (ns : List Int) : PyData.eqv (.tuple (ns.map PyData.int)) (.tuple [.int 0]) = decide (ns = [0]) := by
  cases ns with
  | nil => simp [PyData.eqv, PyData.eqvAll]
  | cons z zs =>
    cases zs with
    | nil =>
      by_cases hz : z = 0
      · subst hz; simp [PyData.eqv, PyData.eqvAll]
      · simp [PyData.eqv, PyData.eqvAll, hz]
    | cons y ys => simp [PyData.eqv, PyData.eqvAll]
theorem boot_str' : bootBuiltins "str" = some (.type "str") := by decide +kernel
def rStrK : List V → Hp → (V → Hp → Prop) → Prop := fun xs H Q => ∃ i : Int, xs = [.int i] ∧ i.natAbs.log2 < 1920 ∧ Q (.str (intS i)) H
theorem words_le {starts : List Int} (h16 : starts.length ≤ 16) (hst : ∀ s ∈ starts, 0 ≤ s ∧ s < 48) : ((starts.map intS).map (·.length)).sum + (starts.map intS).length * (" " : Str).length ≤ 40000 := by
  have h1 := sum_le (m := 1921) (starts.map intS) fun y hy => by
    obtain ⟨r, hr, rfl⟩ := List.mem_map.mp hy
    exact intS_le (hst r hr).1 (hst r hr).2
  rw [List.length_map] at h1 ⊢
  have h2 : (" " : Str).length = 1 := by decide +kernel
  rw [h2]
  omega
theorem join_le (sep : Str) (ys : List Str) : (Txt.join sep ys).length ≤ (ys.map (·.length)).sum + ys.length * sep.length := by
  unfold Txt.join
  rw [StrLaws.glued_eq_join]
  exact StrLaws.join_length_le sep ys
section
variable {P : Program} {w : World} {K : PySem.W.Frag} {mg : Str → Option Value} {base : Heap} {C : Addr}
theorem scStartsTx : FnScope ["starts", "words", "state"] ["starts"] (defScope sStartsTx) := ⟨rfl, rfl, rfl, by decide +kernel, rfl, by decide +kernel, by decide +kernel⟩
theorem ok_startsTx {f : Addr} {fd : FuncData} (F : Fun K "_starts_text" "_starts_text" sStartsTx f fd) (TS : TxtS K mg) : FnOk P w K mg base CX0 1 f fd ["starts"] (spStartsTx K) := by
  obtain ⟨dp, hdp, hpl⟩ := TS.plain
  refine F.ok scStartsTx (fun vs H Q E h => ?_) (fun cdv A outer s H vs Q E hr h => ?_)
  · obtain ⟨S, _, rfl, _⟩ := h
    rfl
  · obtain ⟨S, starts, rfl, hS, h16, hst, kk⟩ := h
    refine ⟨_, pss_cons (ps_if (pt_cmpR (op_eqD hr.units) (pv 0) (pe_glob (v := .ref dp) rfl hdp rfl) (nomark _)) (pss_one (ps_ret pe_str)) pss_nil)
      (pss_cons (ps_set (i := 1) scStartsTx.nd rfl (Or.inl rfl) (pe_join pe_str (pe_lc (own := [("state", 2)]) (g := gName 2) (tt := tYes) (by rfl) scStartsTx.nd (pi_tup (pv 0)) (blkOk_by (N := ["starts", "words", "state"]) (sc := defScope sStartsTx) (by decide +kernel))
          (fun _ _ _ _ _ => pg_name (i := 2) scStartsTx.nd rfl (Or.inl rfl)) (fun _ _ _ _ _ => pts_nil)
          (fun _ _ _ _ _ => pe_callTy call_str_int (by rfl) TS.str_ boot_str' (pa_cons (pv 2) pa_nil)))))
      (pss_one (ps_ret (pe_joined (.cons pe_str (.cons (pe_fmt (pv 1)) .nil)))))), ?_⟩
    refine ⟨_, rfl, .tuple (starts.map PyData.int), .tuple [.int 0], .tup hS (dp_ints starts), .tup (hpl H) (.cons (.int 0) .nil), intsT_shaped starts, intsT_shaped [0], _, rfl, ?_⟩
    rw [intsT_zero]
    refine ifD_2 (fun hz => ?_) (fun hz => ?_)
    · have := kk H fun _ _ e => e
      unfold startsTx at this
      rw [if_pos hz] at this
      exact this
    · refine ⟨⟨_, rfl⟩, _, rfl, S, rfl, ⟨_, hS⟩, fun Dd hD => ?_⟩
      refine lc_tup (K := K) (a := S) (xs := starts.map V.int) (fun i H' => Same H H' ∧ H' Dd = some (.lst (((starts.take i).map intS).map V.str))) ⟨Same.new hD, by rw [List.take_zero]; exact upd_same⟩ (fun i H' _ q => SqT.up hS q.1) ?_ ?_
      · rintro i x H' hx ⟨sm, hd⟩
        rw [List.getElem?_map, Option.map_eq_some_iff] at hx
        obtain ⟨z, hz', rfl⟩ := hx
        have hzz := hst z (List.mem_of_getElem? hz')
        refine ⟨rfl, ?_⟩
        dsimp only [tYes]
        rw [if_pos rfl]
        refine ⟨_, rfl, z, rfl, small_log hzz.1 hzz.2, _, hd, ?_, ?_, ?_⟩
        · rw [List.length_map, List.length_map, List.length_take]
          exact Nat.lt_of_le_of_lt (Nat.le_trans (Nat.min_le_right _ _) h16) (by decide)
        · intro c' o e
          rw [upd_ne (ne_of_none e hD)]
          exact sm _ _ e
        · rw [upd_same, take_succ' hz', List.map_append, List.map_append]
          rfl
      · rintro H1 ⟨s1, hd⟩
        rw [List.length_map, List.take_length] at hd
        have hw := words_le h16 hst
        refine ⟨_, Dd, starts.map intS, rfl, rfl, .inl (SqL.of hd), Nat.le_trans hw (by decide), ?_⟩
        have hj := join_le " " (starts.map intS)
        have h3 : (" | " : Str).length ≤ 3 := by decide +kernel
        have big : ∀ {n : Nat}, n ≤ 60000 → n ≤ sizeLine := fun h => Nat.le_trans h (by decide)
        have q1 := app_le em_le h3
        have q2 := app_le q1 (Nat.le_trans hj hw)
        refine ⟨_, rfl, big (Nat.le_trans q1 (by decide)), ?_⟩
        refine ⟨_, rfl, .inl ⟨_, rfl, big (Nat.le_trans (Nat.le_trans hj hw) (by decide)), _, rfl, big (Nat.le_trans q2 (by decide)), ?_⟩⟩
        have := kk H1 s1
        unfold startsTx at this
        rw [if_neg hz] at this
        exact this
theorem rows_le {rows : List Rw} (h48 : rows.length ≤ 48) (hok : ∀ r ∈ rows, RwOk 48 r) : (rowsTx rows).length ≤ 200000 := by
  have h := join_le "; " (rows.map rowTx)
  have h1 := sum_le (m := 4000) (rows.map rowTx) fun y hy => by
    obtain ⟨r, hr, rfl⟩ := List.mem_map.mp hy
    exact rowTx_le (hok r hr)
  rw [List.length_map] at h h1
  have h2 : ("; " : Str).length = 2 := by decide +kernel
  rw [h2] at h
  show (Txt.join "; " (rows.map rowTx)).length ≤ _
  omega
theorem starts_le {starts : List Int} (h16 : starts.length ≤ 16) (hst : ∀ s ∈ starts, 0 ≤ s ∧ s < 48) : (startsTx starts).length ≤ 40003 := by
  unfold startsTx
  by_cases hz : starts = [0]
  · rw [if_pos hz]
    exact Nat.zero_le _
  · rw [if_neg hz]
    have h3 : (" | " : Str).length ≤ 3 := by decide +kernel
    have q := app_le (app_le em_le h3) (Nat.le_trans (join_le " " (starts.map intS)) (words_le h16 hst))
    exact Nat.le_trans q (by decide)
theorem scStr : FnScope ["self"] ["self"] (defScope sStr) := ⟨rfl, rfl, rfl, by decide +kernel, rfl, by decide +kernel, by decide +kernel⟩
theorem ok_str {f g1 g2 g3 : Addr} {fd gd1 gd2 gd3 : FuncData} (F : Fun K "__str__" "Rule.__str__" sStr f fd) (T : Txt K mg C) (TS : TxtS K mg) (D1 : Df K mg "_rows_text" sRowsTx g1 gd1 ["rows"]) (D2 : Df K mg "_row_text" sRowTx g2 gd2 ["row"]) (D3 : Df K mg "_starts_text" sStartsTx g3 gd3 ["starts"]) : FnOk P w K mg base CX0 3 f fd ["self"] (spStr K C) := by
  have G1 : FnOk P w K mg base CX0 2 g1 gd1 ["rows"] spRowsTx := ok_rowsTx D1.F D2
  have G3 : FnOk P w K mg base CX0 1 g3 gd3 ["starts"] (spStartsTx K) := ok_startsTx D3.F TS
  refine F.ok scStr (fun vs H Q E h => ?_) (fun cdv A outer s H vs Q E hr h => ?_)
  · obtain ⟨p, _, _, _, rfl, _⟩ := h
    rfl
  · obtain ⟨p, rows, starts, k, rfl, ra, h48, hok, h16, hst, kk⟩ := h
    have hr1 : Room 1 _ := hr.mono (by decide)
    obtain ⟨dx, R, S, refs, hp, hR, hE, hS⟩ := ra
    refine ⟨_, pss_one (ps_ret (pe_joined (.cons (pe_fmt (pe_call G1 hr rfl D1.M D1.F.kp D1.B .nil pass0 (pa_cons (pe_fld (pv 0) rfl) pa_nil))) (.cons (pe_fmt (pe_call G3 hr1 rfl D3.M D3.F.kp D3.B .nil pass0 (pa_cons (pe_fld (pv 0) rfl) pa_nil))) .nil)))), ?_⟩
    have big : ∀ {n : Nat}, n ≤ 300000 → n ≤ sizeLine := fun h => Nat.le_trans h (by decide)
    have q1 := app_le em_le (rows_le h48 hok)
    have q2 := app_le q1 (starts_le h16 hst)
    refine ⟨_, rfl, p, C, dx, _, _, rfl, hp, T.cl, T.nR, rf_rows _ _ _, R, refs, rows, rfl, hR, hE, h48, hok, fun H1 s1 => ?_⟩
    refine .inl ⟨_, rfl, big (Nat.le_trans (rows_le h48 hok) (by decide)), _, rfl, big (Nat.le_trans q1 (by decide)), ?_⟩
    refine ⟨_, rfl, p, C, dx, _, _, rfl, s1 _ _ hp, T.cl, T.nS, rf_starts _ _ _, S, starts, rfl, SqT.up hS s1, h16, hst, fun H2 s2 => ?_⟩
    refine .inl ⟨_, rfl, big (Nat.le_trans (starts_le h16 hst) (by decide)), _, rfl, big (Nat.le_trans q2 (by decide)), ?_⟩
    exact kk H2 (s1.trans s2)
end
end PA

set_option maxHeartbeats 4000000
namespace PA
open PySem L2 RZ
open C8 (pss_cut tCut)
theorem atI_nat {α : Type} {xs : List α} {i : Nat} {x : α} (h : xs[i]? = some x) : atI xs (i : Int) = some x := by
  unfold atI
  rw [Evl.ixN_nat (List.getElem?_eq_some_iff.mp h).1]
  exact h
theorem isT.kp {H H' : Hp} {a l c : Addr} {n : Nat} {r : Rw} (q : isT H c r) (S : StreamAt H a l n) (k : Keep a l H H') : isT H' c r := by
  obtain ⟨ne, ns, x, z, h1, h2, _⟩ := S
  exact k _ _ (ne_of (H := H) q h1 (by intro z; cases z)) (ne_of (H := H) q h2 (by intro z; cases z)) q
def spTable : Sp := fun vs H Q _ => ∃ (a l : Addr) (n : Nat) (most marks : Int), vs = [.ref a, .int most, .int marks] ∧ StreamAt H a l n ∧ n ≤ 1000 ∧ 1 ≤ most ∧ most ≤ 48 ∧ 1 ≤ marks ∧ marks ≤ 4 ∧
  ∀ (t R S : Addr) (refs : List V) (rows : List Rw) (starts : List Int) (k : Int) (n' : Nat) (H' : Hp), H' t = some (.tup [.ref R, .ref S, .int k]) → H' R = some (.lst refs) → Each H' isT refs rows → H' S = some (.lst (starts.map V.int)) → Good rows starts k →
    StreamAt H' a l n' → n' ≤ n + 300 → Keep a l H H' → R ≠ a → R ≠ l → S ≠ a → S ≠ l → H R = none → H S = none → Q (.ref t) H'
section
variable {P : Program} {w : World} {K : PySem.W.Frag} {mg : Str → Option Value} {base : Heap} {C : Addr}
theorem scTable : FnScope ["_law_stream", "_law_most", "_law_marks", "_law_size", "_law_many", "_law_rows", "_law_k", "_law_low", "_law_high"] ["_law_stream", "_law_most", "_law_marks"] (defScope sTable) := ⟨rfl, rfl, rfl, by decide +kernel, rfl, by decide +kernel, by decide +kernel⟩
theorem ok_table {f g : Addr} {fd gd : FuncData} (F : Fun K "_law_m_table" "_law_m_table" sTable f fd) (T : Txt K mg C) (D : Df K mg "_law_draw" sDraw g gd ["_law_stream", "_law_many"]) : FnOk P w K mg base CX0 2 f fd ["_law_stream", "_law_most", "_law_marks"] spTable := by
  have G : FnOk P w K mg base CX0 1 g gd ["_law_stream", "_law_many"] spDraw := ok_draw D.F T
  refine F.ok scTable (fun vs H Q E h => ?_) (fun cdv A outer s H vs Q E hr h => ?_)
  · obtain ⟨a, l, n, _, _, rfl, _⟩ := h
    rfl
  · obtain ⟨a, l, n, most, marks, rfl, S0, hn, m1, m48, k1, k4, kk⟩ := h
    refine ⟨_, pss_cut (ps_asg (pe_tup (pa_cons (pe_op op_add pe_int (pe_call G hr rfl D.M D.F.kp D.B .nil pass0 (pa_cons (pv 0) (pa_cons (pv 1) pa_nil)))) (pa_cons (pe_op op_add pe_int (pe_call G hr rfl D.M D.F.kp D.B .nil pass0 (pa_cons (pv 0) (pa_cons (pv 2) pa_nil)))) pa_nil)))
        (pg_tup rfl (pgs_cons (pg_name (i := 3) scTable.nd rfl (Or.inr rfl)) (pgs_cons (pg_name (i := 4) scTable.nd rfl (Or.inl rfl)) pgs_nil))))
      (pss_cons (ps_set (i := 5) scTable.nd rfl (Or.inl rfl) (pe_lst pa_nil))
      (pss_cut (ps_for PassesOwn.never rfl (pi_range1 (by rfl) T.range_ (pa_cons (pv 3) pa_nil)) (pg_name (i := 6) scTable.nd rfl (Or.inl rfl))
        (pss_cons (ps_par (i := 7) (j := 8) (by rfl) scTable.nd rfl rfl (by decide) rfl rfl (pa_cons (pe_call G hr rfl D.M D.F.kp D.B .nil pass0 (pa_cons (pv 0) (pa_cons (pv 3) pa_nil))) (pa_cons (pe_call G hr rfl D.M D.F.kp D.B .nil pass0 (pa_cons (pv 0) (pa_cons (pv 3) pa_nil))) pa_nil)) (by rfl))
        (pss_one (ps_expr (pe_bm PySem.F.plainAttrs_list PySem.F.slot_list_append PySem.F.type_list_append mt_append (pv 5) (pa_cons (pe_tup (pa_cons (pv 7) (pa_cons (pe_cmpR op_eq (pe_call G hr rfl D.M D.F.kp D.B .nil pass0 (pa_cons (pv 0) (pa_cons pe_int pa_nil))) pe_int (nomark _)) (pa_cons (pv 8) (pa_cons (pe_cmpR op_eq (pe_call G hr rfl D.M D.F.kp D.B .nil pass0 (pa_cons (pv 0) (pa_cons pe_int pa_nil))) pe_int (nomark _)) pa_nil))))) pa_nil))))))
      (pss_one (ps_ret (pe_tup (pa_cons (pv 5) (pa_cons (pe_lc (own := [("_law_k", 6)]) (g := gName 6) (tt := tYes) (by rfl) scTable.nd (pi_range1 (by rfl) T.range_ (pa_cons (pe_op op_mul (pv 4) (pv 4)) pa_nil)) (blkOk_by (N := ["_law_stream", "_law_most", "_law_marks", "_law_size", "_law_many", "_law_rows", "_law_k", "_law_low", "_law_high"]) (sc := defScope sTable) (by decide +kernel))
          (fun _ _ _ _ _ => pg_name (i := 6) scTable.nd rfl (Or.inl rfl)) (fun _ _ _ _ _ => pts_nil)
          (fun _ _ _ _ _ => pe_call G hr rfl D.M D.F.kp D.B .nil pass0 (pa_cons (pv 0) (pa_cons (pv 3) pa_nil)))) (pa_cons (pv 4) pa_nil)))))))), ?_⟩
    have e24 := @sm48
    refine ⟨fun σ' H' => ∃ (sz mn : Nat), 1 ≤ sz ∧ sz ≤ 48 ∧ 1 ≤ mn ∧ mn ≤ 4 ∧ σ' = [some (V.ref a), some (V.int most), some (V.int marks), some (V.int (sz : Int)), some (V.int (mn : Int)), none, none, none, none] ∧ StreamAt H' a l (n + 2) ∧ Keep a l H H', ?_, ?_⟩
    · refine ⟨_, rfl, _, rfl, a, l, n, most, rfl, S0, by omega, by omega, e24 m1 m48, fun r1 H1 r10 r11 S1 kp1 => ⟨_, _, rfl, rfl, ?_⟩⟩
      refine ⟨_, rfl, _, rfl, a, l, n + 1, marks, rfl, S1, by omega, by omega, e24 k1 (by omega), fun r2 H2 r20 r21 S2 kp2 => ⟨_, _, rfl, rfl, by show 2 ≤ sizeLine; decide, fun tp htp => ?_⟩⟩
      refine ⟨tp, _, rfl, SqT.of upd_same, rfl, _, _, rfl, _, _, rfl, rfl, ?_⟩
      refine ⟨(1 + r1).toNat, (1 + r2).toNat, by omega, by omega, by omega, by omega, ?_, S2.same (Same.new htp), (kp1.trans kp2).trans (Keep.of (Same.new htp))⟩
      rw [Int.toNat_of_nonneg (by omega), Int.toNat_of_nonneg (by omega)]
      rfl
    rintro _ H2 ⟨sz, mn, sz1, sz48, mn1, mn4, rfl, S2, kp2⟩
    refine ⟨Nat.zero_le _, fun R hR0 => ?_⟩
    obtain ⟨Ra, Rl⟩ := S2.ne hR0
    have HR : H R = none := by
      cases e : H R with
      | none => rfl
      | some o => have := kp2 R o Ra Rl e; rw [hR0] at this; cases this
    refine ⟨fun σ' H' => ∃ x6 x7 x8 refs rows, σ' = [some (V.ref a), some (V.int most), some (V.int marks), some (V.int (sz : Int)), some (V.int (mn : Int)), some (V.ref R), x6, x7, x8] ∧ StreamAt H' a l (n + 2 + 4 * sz) ∧ Keep a l H H' ∧ H' R = some (.lst refs) ∧ Each H' isT refs rows ∧ rows.length = sz ∧ (∀ r ∈ rows, RwOk sz r), ?_, ?_⟩
    · refine ⟨_, rfl, (sz : Int), rfl, by omega, by omega, ?_⟩
      refine for_range (n := sz) (fun i σ' H' => ∃ x6 x7 x8 refs rows, σ' = [some (V.ref a), some (V.int most), some (V.int marks), some (V.int (sz : Int)), some (V.int (mn : Int)), some (V.ref R), x6, x7, x8] ∧ StreamAt H' a l (n + 2 + 4 * i) ∧ Keep a l H H' ∧ H' R = some (.lst refs) ∧ Each H' isT refs rows ∧ rows.length = i ∧ (∀ r ∈ rows, RwOk sz r)) ?_ ?_ ?_
      · refine ⟨none, none, none, [], [], rfl, S2.same (Same.new hR0), kp2.trans (Keep.of (Same.new hR0)), upd_same, Each.nil, rfl, fun r hr => by cases hr⟩
      · rintro i _ H3 hi ⟨x6, x7, x8, refs, rows, rfl, S3, kp3, hR, hE, hlen, hok⟩
        refine ⟨_, rfl, _, rfl, a, l, _, _, rfl, S3, by omega, by omega, e24 (by omega) (by omega), fun r1 H4 r10 r11 S4 kp4 => ?_⟩
        refine ⟨_, rfl, _, rfl, a, l, _, _, rfl, S4, by omega, by omega, e24 (by omega) (by omega), fun r2 H5 r20 r21 S5 kp5 => ⟨_, _, rfl, ?_⟩⟩
        have hR5 : H5 R = some (.lst refs) := kp5 _ _ Ra Rl (kp4 _ _ Ra Rl hR)
        refine ⟨_, rfl, .inl ⟨rfl, _, SqL.of hR5⟩, ?_⟩
        refine ⟨_, rfl, ?_⟩
        refine ⟨_, rfl, a, l, _, _, rfl, S5, by omega, by decide, e24 (by decide) (by decide), fun r3 H6 r30 r31 S6 kp6 => ⟨rfl, ?_⟩⟩
        refine ⟨_, rfl, ?_⟩
        refine ⟨_, rfl, a, l, _, _, rfl, S6, by omega, by decide, e24 (by decide) (by decide), fun r4 H7 r40 r41 S7 kp7 => ⟨rfl, by show 4 ≤ sizeLine; decide, fun tp htp => ?_⟩⟩
        have hR7 : H7 R = some (.lst refs) := kp7 _ _ Ra Rl (kp6 _ _ Ra Rl hR5)
        have kp37 : Keep a l H3 H7 := ((kp4.trans kp5).trans kp6).trans kp7
        have hE7 : Each H7 isT refs rows := hE.imp fun c r q => q.kp S3 kp37
        have hR8 := Same.new (o := .tup [.int r1, .bl (decide (V.int r3 = V.int 0)), .int r2, .bl (decide (V.int r4 = V.int 0))]) htp _ _ hR7
        have hE8 : Each _ isT refs rows := hE7.sameT (Same.new (o := .tup [.int r1, .bl (decide (V.int r3 = V.int 0)), .int r2, .bl (decide (V.int r4 = V.int 0))]) htp)
        refine ⟨R, refs, _, rfl, rfl, hR8, ?_, ?_⟩
        · rw [hE.1, hlen]
          exact Nat.lt_of_lt_of_le hi (Nat.le_trans sz48 (by decide))
        refine ⟨_, _, _, _, rows ++ [(r1, decide (V.int r3 = V.int 0), r2, decide (V.int r4 = V.int 0))], rfl, ?_, ?_, upd_same, ?_, ?_, ?_⟩
        · refine StreamAt.at_ (n := n + 2 + 4 * i + 4) ?_ (by omega)
          exact (S7.same (Same.new htp)).lst hR8 Ra Rl
        · intro c o ca cl e
          rw [upd_ne (ne_of_none e HR)]
          exact Same.new htp _ _ ((kp3.trans kp37) c o ca cl e)
        · exact (hE8.imp fun c r q => q.lst hR8).push ((show isT _ tp (r1, decide (V.int r3 = V.int 0), r2, decide (V.int r4 = V.int 0)) from upd_same).lst hR8)
        · rw [List.length_append, hlen]
          rfl
        · intro r hr
          rcases List.mem_append.mp hr with hr | hr
          · exact hok r hr
          · cases List.mem_singleton.mp hr
            exact ⟨⟨r10, r11⟩, r20, r21⟩
      · rintro σ' H' ⟨x6, x7, x8, refs, rows, rfl, S3, kp3, hR, hE, hlen, hok⟩
        exact ⟨x6, x7, x8, refs, rows, rfl, S3, kp3, hR, hE, hlen, hok⟩
    rintro _ H3 ⟨x6, x7, x8, refs, rows, rfl, S3, kp3, hR, hE, hlen, hok⟩
    have hm : ((mn : Int) * (mn : Int)).toNat = mn * mn := by
      rw [← Int.natCast_mul, Int.toNat_natCast]
    have hmm : mn * mn ≤ 16 := Nat.mul_le_mul mn4 mn4
    have hmi : (mn : Int) * (mn : Int) = ((mn * mn : Nat) : Int) := (Int.natCast_mul mn mn).symm
    refine ⟨_, rfl, ?_⟩
    refine ⟨_, rfl, _, rfl, _, _, rfl, rfl, .inl ⟨by omega, by omega⟩, _, rfl, by omega, by omega, fun Dd hD => ?_⟩
    obtain ⟨Da, Dl⟩ := S3.ne hD
    refine lc_range (n := ((mn : Int) * (mn : Int)).toNat) (fun i H' => StreamAt H' a l (n + 2 + 4 * sz + i) ∧ Keep a l H3 H' ∧ ∃ zs : List Int, H' Dd = some (.lst (zs.map V.int)) ∧ zs.length = i ∧ ∀ z ∈ zs, 0 ≤ z ∧ z < (sz : Int)) ?_ ?_ ?_
    · exact ⟨S3.same (Same.new hD), Keep.of (Same.new hD), [], upd_same, rfl, fun z hz => by cases hz⟩
    · rintro i H4 hi ⟨S4, kp4, zs, hd, hl, hz⟩
      rw [hm] at hi
      refine ⟨rfl, ?_⟩
      dsimp only [tYes]
      rw [if_pos rfl]
      refine ⟨_, rfl, _, rfl, a, l, _, _, rfl, S4, by omega, by omega, e24 (by omega) (by omega), fun r H5 r0 r1 S5 kp5 => ?_⟩
      have hd5 := kp5 _ _ Da Dl hd
      refine ⟨_, hd5, ?_, ?_, ?_, zs ++ [r], ?_, ?_, ?_⟩
      · rw [List.length_map, hl]
        exact Nat.lt_of_lt_of_le (Nat.lt_of_lt_of_le hi hmm) (by decide)
      · exact S5.lst hd5 Da Dl
      · intro c o ca cl e
        rw [upd_ne (ne_of_none e hD)]
        exact kp5 _ _ ca cl (kp4 _ _ ca cl e)
      · rw [upd_same, List.map_append]
        rfl
      · rw [List.length_append, hl]
        rfl
      · intro z hz'
        rcases List.mem_append.mp hz' with hz' | hz'
        · exact hz z hz'
        · cases List.mem_singleton.mp hz'
          exact ⟨r0, r1⟩
    · rintro H4 ⟨S4, kp4, zs, hd, hl, hz⟩
      rw [hm] at hl S4
      refine ⟨_, rfl, by show 3 ≤ sizeLine; decide, fun tp htp => ?_⟩
      have hR4 := kp4 _ _ Ra Rl hR
      have hD0 : H Dd = none := by
        cases e : H Dd with
        | none => rfl
        | some o => have := kp3 Dd o Da Dl e; rw [hD] at this; cases this
      refine kk tp R Dd refs rows zs mn _ _ upd_same (Same.new htp _ _ hR4) ?_ (Same.new htp _ _ hd) ⟨by omega, by omega, ?_, ?_, ?_⟩ (S4.same (Same.new htp)) (by omega) ((kp3.trans kp4).trans (Keep.of (Same.new htp))) Ra Rl Da Dl HR hD0
      · exact (hE.imp fun c r q => q.kp S3 kp4).sameT (Same.new htp)
      · intro r hr
        rw [hlen]
        exact hok r hr
      · rw [hl]
        rcases (by omega : mn = 1 ∨ mn = 2 ∨ mn = 3 ∨ mn = 4) with rfl | rfl | rfl | rfl
        · exact .r1
        · exact .r2
        · exact .r3
        · exact .r4
      · intro z hz'
        rw [hlen]
        exact hz z hz'
end
end PA

set_option maxHeartbeats 4000000
namespace PA
open PySem L2 RZ TS
open C8 (pss_cut tCut)
/-! ### words, pieces, texts -/
/-- a figure or a small letter -/
def okc (n : Nat) : Bool := (decide (48 ≤ n) && decide (n ≤ 57)) || (decide (97 ≤ n) && decide (n ≤ 122))
structure Word (w : Str) (i : Int) : Prop where
  ok : (cs w).all okc = true
  len : w.length ≤ 2
  asc : Txt.isascii w = true
  dig : Txt.isdigit w = true
  num : intText? w = some i
theorem word48 : ∀ n : Fin 48, ((cs (intS ((n : Nat) : Int))).all okc && decide ((intS ((n : Nat) : Int)).length ≤ 2) && Txt.isascii (intS ((n : Nat) : Int)) && Txt.isdigit (intS ((n : Nat) : Int)) && decide (intText? (intS ((n : Nat) : Int)) = some ((n : Nat) : Int))) = true := by
  decide +kernel
theorem int_word {i : Int} (h0 : 0 ≤ i) (h1 : i < 48) : Word (intS i) i := by
  have h := word48 ⟨i.toNat, by omega⟩
  simp only [Bool.and_eq_true, decide_eq_true_eq] at h
  have e : ((i.toNat : Nat) : Int) = i := Int.toNat_of_nonneg h0
  rw [e] at h
  exact ⟨h.1.1.1.1, h.1.1.1.2, h.1.1.2, h.1.2, h.2⟩
theorem fallS_ok (b : Bool) : (cs (fallS b)).all okc = true := by cases b <;> decide +kernel
theorem goS_ok (b : Bool) : (cs (goS b)).all okc = true := by cases b <;> decide +kernel
theorem not_mem_ok {w : Str} (h : (cs w).all okc = true) {n : Nat} (hn : okc n = false) : n ∉ cs w := fun z => by
  have := List.all_eq_true.mp h n z
  rw [hn] at this
  cases this
theorem mem_join {sep : Str} {c : Nat} : ∀ {ys : List Str}, c ∈ cs (sep.join ys) → c ∈ cs sep ∨ ∃ y ∈ ys, c ∈ cs y
  | [], h => by
    rw [Str.join.eq_1] at h
    have : cs Str.empty = [] := rfl
    rw [this] at h
    cases h
  | [y], h => by
    rw [Str.join.eq_2] at h
    exact .inr ⟨y, by simp, h⟩
  | y :: z :: r, h => by
    rw [join_two, cs_app, cs_app] at h
    rcases List.mem_append.mp h with h | h
    · rcases List.mem_append.mp h with h | h
      · exact .inr ⟨y, by simp, h⟩
      · exact .inl h
    · rcases mem_join h with h | ⟨y', hy, h⟩
      · exact .inl h
      · exact .inr ⟨y', List.mem_cons_of_mem _ hy, h⟩
theorem join_eq (sep : Str) (ys : List Str) : Txt.join sep ys = sep.join ys := StrLaws.glued_eq_join sep ys
theorem cs_sp : cs " " = [32] := by decide +kernel
theorem cs_semi : cs "; " = [59, 32] := by decide +kernel
theorem cs_bar : cs " | " = [32, 124, 32] := by decide +kernel
theorem cs_empty : cs Str.empty = [] := rfl
def rowWords (r : Rw) : List Str := [intS r.1, fallS r.2.1, intS r.2.2.1, goS r.2.2.2]
theorem rowTx_join (r : Rw) : rowTx r = Txt.join " " (rowWords r) := by
  rw [join_eq]
  apply cs_inj
  unfold rowTx rowWords
  rw [join_two, join_two, join_two, Str.join.eq_2]
  simp only [cs_app, cs_empty, List.nil_append, List.append_assoc]
theorem rowWords_ok {r : Rw} (h : RwOk 48 r) : ∀ w ∈ rowWords r, (cs w).all okc = true := by
  obtain ⟨⟨a0, a1⟩, c0, c1⟩ := h
  intro w hw
  unfold rowWords at hw
  simp only [List.mem_cons, List.not_mem_nil, or_false] at hw
  rcases hw with rfl | rfl | rfl | rfl
  · exact (int_word a0 a1).ok
  · exact fallS_ok _
  · exact (int_word c0 c1).ok
  · exact goS_ok _
theorem split_row {r : Rw} (h : RwOk 48 r) : Txt.split (rowTx r) " " = rowWords r := by
  rw [rowTx_join]
  exact split_join (c0 := 32) (t := []) cs_sp (by decide +kernel) (by unfold rowWords; simp) fun w hw => not_mem_ok (rowWords_ok h w hw) (by decide)
theorem mem_row {r : Rw} (h : RwOk 48 r) {c : Nat} (hc : c ∈ cs (rowTx r)) : c = 32 ∨ okc c = true := by
  rw [rowTx_join, join_eq] at hc
  rcases mem_join hc with hc | ⟨w, hw, hc⟩
  · rw [cs_sp] at hc
    exact .inl (List.mem_singleton.mp hc)
  · exact .inr (List.all_eq_true.mp (rowWords_ok h w hw) c hc)
theorem split_rows {rows : List Rw} (h0 : rows ≠ []) (h : ∀ r ∈ rows, RwOk 48 r) : Txt.split (rowsTx rows) "; " = rows.map rowTx := by
  unfold rowsTx
  refine split_join (c0 := 59) (t := [32]) cs_semi (by decide +kernel) (by simpa using h0) fun y hy => ?_
  obtain ⟨r, hr, rfl⟩ := List.mem_map.mp hy
  intro z
  rcases mem_row (h r hr) z with z | z
  · cases z
  · cases z
theorem mem_rows {rows : List Rw} (h : ∀ r ∈ rows, RwOk 48 r) {c : Nat} (hc : c ∈ cs (rowsTx rows)) : c ≠ 124 := by
  unfold rowsTx at hc
  rw [join_eq] at hc
  rintro rfl
  rcases mem_join hc with hc | ⟨w, hw, hc⟩
  · rw [cs_semi] at hc
    simp at hc
  · obtain ⟨r, hr, rfl⟩ := List.mem_map.mp hw
    rcases mem_row (h r hr) hc with z | z
    · cases z
    · cases z
theorem split_words {starts : List Int} (h0 : starts ≠ []) (h : ∀ s ∈ starts, 0 ≤ s ∧ s < 48) : Txt.split (wordsTx starts) " " = starts.map intS := by
  unfold wordsTx
  refine split_join (c0 := 32) (t := []) cs_sp (by decide +kernel) (by simpa using h0) fun y hy => ?_
  obtain ⟨s, hs, rfl⟩ := List.mem_map.mp hy
  exact not_mem_ok (int_word (h s hs).1 (h s hs).2).ok (by decide)
/-- where the bar stands -/
theorem bar_at {x : Str} {k : Nat} (h : StrLaws.At x " | " x.length k) : (cs x)[k + 1]? = some 124 := by
  have := at_get h (j := 1) (by rw [cs_bar]; decide)
  rw [this, cs_bar]
  rfl
theorem part_plain {rows : List Rw} (h : ∀ r ∈ rows, RwOk 48 r) : Txt.partition (ruleTx rows [0]) " | " = (ruleTx rows [0], Str.empty, Str.empty) := by
  refine partition_no fun k hk => ?_
  have e : cs (ruleTx rows [0]) = cs (rowsTx rows) := by
    unfold ruleTx startsTx
    rw [if_pos rfl, cs_app, cs_app, cs_empty]
    have : cs ("" : Str) = [] := by decide +kernel
    rw [this]
    simp
  have := bar_at hk
  rw [e] at this
  exact mem_rows h (List.mem_of_getElem? this) rfl
theorem plain_eq (rows : List Rw) : ruleTx rows [0] = rowsTx rows := by
  apply cs_inj
  unfold ruleTx startsTx
  rw [if_pos rfl, cs_app, cs_app, cs_empty]
  have : cs ("" : Str) = [] := by decide +kernel
  rw [this]
  simp
theorem part_bar {rows : List Rw} {starts : List Int} (h : ∀ r ∈ rows, RwOk 48 r) (h0 : starts ≠ [0]) : Txt.partition (ruleTx rows starts) " | " = (rowsTx rows, (" | " : Str), wordsTx starts) := by
  have e : cs (ruleTx rows starts) = cs (rowsTx rows) ++ cs " | " ++ cs (wordsTx starts) := by
    unfold ruleTx startsTx
    rw [if_neg h0]
    simp only [cs_app, cs_empty, List.nil_append, List.append_assoc]
  refine partition_at e fun k hk hat => ?_
  have hb := bar_at hat
  rw [e, List.append_assoc] at hb
  rcases Nat.lt_or_ge (k + 1) (cs (rowsTx rows)).length with q | q
  · rw [List.getElem?_append_left q] at hb
    exact mem_rows h (List.mem_of_getElem? hb) rfl
  · have : k + 1 = (cs (rowsTx rows)).length := by omega
    rw [List.getElem?_append_right q, this, Nat.sub_self, cs_bar] at hb
    cases hb
end PA

set_option maxHeartbeats 4000000
/-! a comprehension whose element is a call that may raise: the exception goes on in the def -/
namespace L2
open PySem PySem.Spec PyProof.Rows
/-- an exception that a call within X let out -/
def XC (X : Cx) (E : XK) (u : Value) (s' : Shared) : Prop := ∃ (pins : List (Addr × Obj)) (σ : St) (H : Hp) (s : Shared), Inv X pins σ H s ∧ CX X.prog X.w X.stack H s E u s'
abbrev Cx.blkX (X : Cx) (E : XK) (s : Shared) (H : Hp) (scope : Scope) (cenv : Env) (fp : List Addr) : Cx := (X.blk s H scope cenv fp).wish (XC (X.blk s H scope cenv fp) E)
theorem pass_blk {X : Cx} {E : XK} {s : Shared} {H : Hp} {scope : Scope} {cenv : Env} {fp : List Addr} : Passes (L2.CX X.prog X.w) (X.blkX E s H scope cenv fp) E := fun pins σ H s e s' I c => ⟨pins, σ, H, s, I.unwish, c⟩
/-- only a flight -/
theorem sky_fl {B B0 : Heap} {l : List Env} {a L : Addr} {Z Z0 : Obj → Prop} {h : Heap} (f : HandSPX.FlyingZ B0 l a Z0 h) (x : Sky B l a Z L h) : HandSPX.FlyingZ B l a Z h := by
  obtain ⟨_, _, _, oe, vs, T, oT, ts, he, _, hd, h1, _, _, hT, hdT, h3⟩ := f
  rcases x with ⟨_, _, _, oe', vs', he', _, hd', h1'⟩ | x | ⟨_, _, _, oe', vs', T', oT', ts', he', _, hd', h1', _, _, hT', hdT', h3'⟩
  · rw [he] at he'
    cases he'
    rw [hd] at hd'
    cases hd'
    rw [h1] at h1'
    cases h1'
  · exact x
  · rw [he] at he'
    cases he'
    rw [hd] at hd'
    cases hd'
    rw [h1] at h1'
    cases h1'
    rw [hT] at hT'
    cases hT'
    rw [hdT] at hdT'
    cases hdT'
    rw [h3] at h3'
    cases h3'
theorem comp_err {X : Cx} {E : XK} {pins : List (Addr × Obj)} {σ : St} {H3 : Hp} {s3 : Shared} {scope : Scope} {ce : Env} {fp : List Addr} (tk : Takes X fun cls d _ H => E cls d H) (hs : X.stack = X.env :: X.outer) (hf : X.env.frame = some X.env.locals) (I3 : Inv X pins σ H3 s3) (cL : ce.locals = s3.heap.objs.size) (hcf : ce.frame = X.env.frame)
    (ff : ∀ b ∈ fp, (b ∈ X.ex ∨ X.s_0.heap.objs.size ≤ b) ∧ b ≠ X.env.locals ∧ (∀ x c, X.env.cells.lookup x = some c → c ≠ b) ∧ ∀ p ∈ X.pn ++ pins, p.1 ≠ b) {u : Value} {s' : Shared} (c : XC (X.blk s3 H3 scope ce fp) E u s') :
    notedBy (model X.prog X.w) X.A ce (CompFails (model X.prog X.w) X.A X.xe ce) u s' := by
  obtain ⟨pins', σ', H', sc, I, c⟩ := c
  obtain ⟨a0, B0, _, _, _, e0, fl0, _⟩ := id c
  obtain ⟨a, B, sI, pins2, σ2, H2, cls, d, ea, I2, nb, up, sky, na, os, ag, w⟩ := XE.of_call (W := fun cls d _ H => E cls d H) I (fun _ _ _ h => h) c
  subst e0
  cases ea
  have fl := sky_fl fl0 sky
  have fl : HandSPX.FlyingZ B (X.env :: X.outer) a0 (Zc cls d) s'.heap := by rw [← hs]; exact fl
  have nb : ∀ b o, sI.heap.get? b = some o → b ∉ frs X.stack → B.get? b = some o := nb
  show wpAny _ _ (noteFrame (.ref a0) ce) _ _ s'
  rw [noteFrame_env _ hcf]
  refine HandSPX.looks_onZ Zc.steady (by rw [I3.ok.frames, hs]) hf fl fun h1 hH up1 => ?_
  obtain ⟨m, hm, _⟩ := I2.loc
  have hm : sI.heap.Ns ce.locals m := hm
  have hn1 : h1.Ns ce.locals m := up1.ns (up.ns hm)
  obtain ⟨oL, es, ep, hoL, hdL, _⟩ := id hn1
  refine ⟨m, hn1, fun h' m' hn' hsb => ?_⟩
  obtain ⟨b1, b0, f1, t1⟩ := hH
  obtain ⟨oe, vs, T, oT, ts, he, hz, hd, hv1, hnT, hTe, hT, hdT, h3⟩ := t1
  have aC : a0 ≠ ce.locals := by
    rintro rfl
    rw [he] at hoL
    cases hoL
    rw [hd] at hdL
    cases hdL
  have TC' : T ≠ ce.locals := by
    rintro rfl
    rw [hT] at hoL
    cases hoL
    rw [hdT] at hdL
    cases hdL
  have hid : ∀ {h : Heap} {b : Addr}, h.get? b = none → (PySem.W.hideAll h [ce.locals]).get? b = none := fun {h b} e => by
    cases q : (PySem.W.hideAll h [ce.locals]).get? b with
    | none => rfl
    | some o =>
      have z := PySem.W.of_hideAll _ q
      rw [e] at z
      cases z
  have ne' : ∀ {h : Heap} {b : Addr} {o : Obj}, (PySem.W.hideAll h [ce.locals]).get? b = some o → b ≠ ce.locals := fun {h b o} e z => by
    rw [z, PySem.W.hideAll_none _ (by simp)] at e
    cases e
  have st' : (PySem.W.hideAll B [ce.locals]).StaysIn h' := fun b o e => (hsb.2 b (ne' e)).trans (b1 b o (PySem.W.of_hideAll _ e))
  have ff' : h'.FunFrames (PySem.W.hideAll B [ce.locals]) (X.env :: X.outer) := Heap.FunFrames.sameBut hsb hn' (funFrames_none f1 fun L hL => hid (f1.mem hL).1)
  have t2 : HandSPX.TracedZ h' (PySem.W.hideAll B [ce.locals]) a0 (Zc cls d) (rawInt X.env.locals) := ⟨oe, vs, T, oT, ts, (hsb.2 _ aC).trans he, hz, hd, hv1, hid hnT, hTe, (hsb.2 _ TC').trans hT, hdT, h3⟩
  unfold PySem.passOn
  refine wpAny_bind (wpAny_field ((hsb.2 _ aC).trans he) hd hv1 ?_)
  rw [if_neg (show ¬ ((Value.ref T == Value.none) = true) from by simp)]
  rw [hcf, hf]
  refine wpAny_bind (HandSPX.setFlight_onZ ⟨st', hid b0, ff', t2⟩ fun h2 hH2 up2 => ?_)
  refine wpAny_throw ?_
  refine tk _ _ ⟨a0, PySem.W.hideAll B [ce.locals], { sI with heap := PySem.W.hideAll sI.heap [ce.locals] }, pins, σ, H2, cls, d, rfl, ?_, fun b o e hb => ?_, fun b o e hnf => ?_, .inr (.inr (by rw [hs]; exact hH2)), na, os, ag, w⟩
  · have base : Un (frs X.stack) fp H3 H2 s3.heap sI.heap := I2.base
    have low : ∀ {b : Addr} {o : Obj}, s3.heap.get? b = some o → b ∉ [ce.locals] := fun {b o} e z => by
      have := Heap.lt_size e
      rw [List.mem_singleton.mp z, cL] at this
      exact absurd this (Nat.lt_irrefl _)
    have free : H2 ce.locals = none := I2.free
    refine I3.call' (ch := fp) I2.os ⟨fun b o e n h1 h2 => PySem.W.hideAll_get _ (base.keep b o e n h1 h2) (low e), fun b o e n h1 h2 => ?_, base.free, fun b o e h2 => ?_, base.tups, base.frzs, base.tbls⟩ (fun b o e => ?_) I2.bare ff
    · obtain ⟨sl, q⟩ := base.slot b o e n h1 h2
      exact ⟨sl, PySem.W.hideAll_get _ q (low e)⟩
    · obtain ⟨o', q⟩ := base.there b o e h2
      exact ⟨o', PySem.W.hideAll_get _ q (low e)⟩
    · refine (I2.hok b o e).stay (fun c v hc r => PySem.W.hideAll_get _ r fun z => ?_) (fun _ q => q) fun _ _ q => q
      have z := List.mem_singleton.mp z
      subst z
      rcases hc with hc | hc
      · rw [← hc, free] at e
        cases e
      · rw [free] at hc
        cases hc
  · have e' := PySem.W.of_hideAll _ e
    exact PySem.W.hideAll_get _ (nb b o e' hb) fun z => ne' e (List.mem_singleton.mp z)
  · have e' := PySem.W.of_hideAll _ e
    obtain ⟨sl, q1⟩ := up b o e' hnf
    obtain ⟨sl1, q2⟩ := up1 b _ q1 hnf
    obtain ⟨sl2, q3⟩ := up2 b _ ((hsb.2 b (ne' e)).trans q2) hnf
    exact ⟨sl2, q3⟩
/-- [elt for tg in iter if ..], elt may raise -/
theorem pe_lcX {X : Cx} {E : XK} {elt tg iter : Expr} {ifs : List Expr} {scope : Scope} {own : List (Str × Nat)} {pos : Pos} {wi : TI} {g : TG} {tt : TT} {te : TE} (tk : Takes X fun cls d _ H => E cls d H) (hst : X.stack = X.env :: X.outer) (hf : X.env.frame = some X.env.locals)
    (hc : X.calm = true) (hN : X.N.Nodup) (hi : PI X tg iter wi) (ok : BlkOk X.N X.env.scope scope own)
    (hg : ∀ (s : Shared) (H : Hp) (C : Addr) (cl : List (Str × Addr)) (fp : List Addr), PG (X.blk s H scope (compEnvC scope cl C X.env) fp) tg g) (ht : ∀ (s : Shared) (H : Hp) (C : Addr) (cl : List (Str × Addr)) (fp : List Addr), PTs (X.blk s H scope (compEnvC scope cl C X.env) fp) ifs tt)
    (he : ∀ (s : Shared) (H : Hp) (C : Addr) (cl : List (Str × Addr)) (fp : List Addr), PE (X.blkX E s H scope (compEnvC scope cl C X.env) fp) elt te) (hs : ∀ x, foldedSetIterable iter X.env x = pure x := by intro _; rfl) :
    PE X (.ListComp elt [⟨tg, iter, ifs, 0⟩] scope pos) (tLc wi g tt te (own.map (·.2))) := by
  refine ⟨fun pins s σ H Q I h => ?_⟩
  rw [eval_ListComp]
  have hfree : ∀ y ∈ scope.names, y.2 = .free → ∃ c, X.env.cells.lookup y.1 = some c := fun y hy e => by
    rcases ok.free y hy e with k | k
    · exact I.ok.has _ (.inl k)
    · exact I.ok.has _ (.inr k)
  refine comprehension_at (use := none) rfl hs (closure_ok hfree) ok.kind (fun y hy e => by rw [ok.uniq y hy, e]) (thn (hi.run pins s σ H _ I h) fun xv s1 hx => thn hx fun itv s2 h2 => ?_)
  obtain ⟨it, fp, tn, J, H2, e, I2, T, st2, f2, q⟩ := h2
  subst e
  refine wpAny_newObj_type (newEnv_comp ?_) (by show 0 ≤ sizeLine; decide)
  obtain ⟨D, hD⟩ : ∃ D, s2.heap.objs.size = D := ⟨_, rfl⟩
  obtain ⟨W, ⟨m0, w0⟩, turn⟩ := q D (I2.hok.fresh (Nat.le_of_eq hD))
  obtain ⟨s3, hs3⟩ : ∃ s3 : Shared, s3 = { s2 with heap := s2.heap.push { cls := .type "list", data := .seq ([] : List Value).toArray } } := ⟨_, rfl⟩
  have h3 : s3.heap = s2.heap.push { cls := .type "list", data := .seq ([] : List Value).toArray } := by rw [hs3]
  obtain ⟨H3, hH3⟩ : ∃ H3, H3 = upd H2 D (.lst []) := ⟨_, rfl⟩
  have I3 : Inv X pins σ H3 s3 := by
    rw [hs3, hH3]
    refine I2.laid (t' := s2.toks) (fun b o e => Heap.get?_push_of_some _ e) (Nat.le_of_eq hD) ⟨Nat.zero_le _, [], 0, .nil, ?_⟩
    rw [← hD]
    exact Heap.get?_push_size _ rfl
  have f3 : ∀ b ∈ fp, FpOk X pins H3 b ∧ b < s3.heap.objs.size := fun b hb => by
    obtain ⟨o, e, _⟩ := T.obj _ _ st2 b hb
    have hlt := Heap.lt_size e
    refine ⟨⟨?_, (f2 b hb).2⟩, by rw [h3, Heap.size_push]; exact Nat.lt_succ_of_lt hlt⟩
    rw [hH3, upd_ne (by rw [← hD]; exact Nat.ne_of_lt hlt)]
    exact (f2 b hb).1
  have st3 : tn 0 s3.heap := T.keep _ _ _ st2 fun b _ o e => by rw [h3]; exact Heap.get?_push_of_some _ e
  obtain ⟨ce, hce⟩ : ∃ ce, ce = compEnvC scope (cellsFrom (s3.heap.objs.size + 1) scope.names (cloFrom X.env.cells scope.names [])) s3.heap.objs.size X.env := ⟨_, rfl⟩
  have cL : ce.locals = s3.heap.objs.size := by rw [hce]; rfl
  have hcf : ce.frame = X.env.frame := by rw [hce]; rfl
  have I4 := block_start I3 ok hN f3
  have pg := hg s3 H3 s3.heap.objs.size (cellsFrom (s3.heap.objs.size + 1) scope.names (cloFrom X.env.cells scope.names [])) fp
  have pt := ht s3 H3 s3.heap.objs.size (cellsFrom (s3.heap.objs.size + 1) scope.names (cloFrom X.env.cells scope.names [])) fp
  have pe := he s3 H3 s3.heap.objs.size (cellsFrom (s3.heap.objs.size + 1) scope.names (cloFrom X.env.cells scope.names [])) fp
  rw [← hce] at I4 pg pt pe
  rw [← hH3] at w0
  obtain ⟨s4, hs4⟩ : ∃ s4 : Shared, s4 = { s3 with heap := pushCells (s3.heap.push { cls := .type "dict", data := .dict #[] }) scope.names } := ⟨_, rfl⟩
  rw [← hs4] at I4
  have ff : ∀ b ∈ fp, (b ∈ X.ex ∨ X.s_0.heap.objs.size ≤ b) ∧ b ≠ X.env.locals ∧ (∀ x c, X.env.cells.lookup x = some c → c ≠ b) ∧ ∀ p ∈ X.pn ++ pins, p.1 ≠ b := fun b hb => ⟨(f3 b hb).1.2.2.2.1, (f3 b hb).1.2.1, (f3 b hb).1.2.2.2.2.1, (f3 b hb).1.2.2.2.2.2⟩
  have st4 : tn 0 s4.heap := T.keep _ _ _ st3 fun b _ o e => by rw [hs4]; exact pushCells_keeps _ _ _ _ (Heap.get?_push_of_some _ e)
  have nfp : ∀ b ∈ fp, H3 b = none := fun b hb => (f3 b hb).1.1
  have stat : ∀ {σ' : St} {H' : Hp} {s' : Shared}, Inv (X.blk s3 H3 scope ce fp) [] σ' H' s' → (∀ b ∈ fp, H' b = none) → ∀ b ∈ fp, FpOk (X.blk s3 H3 scope ce fp) [] H' b := fun {σ' H' s'} I' hn b hb =>
    ⟨hn b hb, (I'.ok.exf b hb).1, I'.ok.exfs b hb, .inl hb, fun x c e => (I'.ok.exf b hb).2 x c e, fun p hp => absurd (show p ∈ ([] : List (Addr × Obj)) ++ [] from hp) (by simp)⟩
  have loop : codeAny (model X.prog X.w) X.A (.compLoop (.ListComp elt [⟨tg, iter, ifs, 0⟩] scope pos) 0 (.ref it) (.ref D) ce) (compEnds (model X.prog X.w) X.A X.xe none (EP X pins σ Q) (.ref D) ce) s4 := by
    refine compLoop_any (fun n s' => ∃ i H', Inv (X.blk s3 H3 scope ce fp) [] (wipe σ (own.map (·.2))) H' s' ∧ tn i s'.heap ∧ (∀ b ∈ fp, H' b = none) ∧ W i n H') ?_ m0 ⟨0, H3, I4, st4, nfp, w0⟩
    rintro n s5 ⟨i, H5, I5, st5, n5, w5⟩
    rcases turn i n H5 w5 with ⟨stop, qq⟩ | ⟨go, Nx, hNx, step⟩
    · refine thnF (T.done (X.blk s3 H3 scope ce fp) rfl rfl rfl hc i [] s5 _ H5 (fun _ _ => False) I5 (stat I5 n5) st5 stop) fun r s6 ⟨hr, I6⟩ => ?_
      subst hr
      have I7 : Inv X pins σ H5 s6 := I3.call' (ch := fp) I6.os I6.base I6.hok I6.bare ff
      have nC : H5 s3.heap.objs.size = none := by
        rw [← cL]
        exact I6.free
      obtain ⟨m, hn, _⟩ := I6.loc
      refine ⟨m, hn, fun h'' sb => ?_⟩
      obtain ⟨f0, f1, f2', f3', f4, f5⟩ := I3.fpOk (Nat.le_refl _) nC
      have sb : Heap.SameBut s3.heap.objs.size s6.heap h'' := by rw [← cL]; exact sb
      exact ⟨.ref D, H5, I7.turned (t' := s6.toks) (fun b o hb e => (sb.2 b hb).trans e) f0 f1 f3' f4 f5, rfl, qq⟩
    · refine thnF (T.item (X.blk s3 H3 scope ce fp) rfl rfl rfl hc i [] s5 _ H5 (fun _ _ => False) I5 (stat I5 n5) st5 go) fun r s6 ⟨u, hr, h6⟩ => ?_
      subst hr
      refine thnF h6 fun _ s7 ⟨x, H7, I7, r7, y7, st7, n7⟩ => ?_
      have I7' := I7.pinned (stat I7 n7) (T.obj _ _ st7)
      refine thnF (pg.run _ s7 _ H7 x u _ I7' r7 (step x H7 y7)) fun _ s8 ⟨σ8, H8, I8, hw8, q8⟩ => ?_
      refine thnF (pt.run _ s8 σ8 H8 _ I8 q8) fun b s9 ⟨H9, I9, q9⟩ => ?_
      have fin : ∀ {s' : Shared} {H' : Hp}, Inv (X.blk s3 H3 scope ce fp) ([] ++ pinsAt fp s7.heap) σ8 H' s' → Nx H' → ∃ m, m < n ∧ ∃ i H', Inv (X.blk s3 H3 scope ce fp) [] (wipe σ (own.map (·.2))) H' s' ∧ tn i s'.heap ∧ (∀ b ∈ fp, H' b = none) ∧ W i m H' := fun {s' H'} I' nx => by
        obtain ⟨m', hm, w'⟩ := hNx H' nx
        have pin' : ∀ b ∈ fp, ∀ o, s7.heap.get? b = some o → s'.heap.get? b = some o ∧ H' b = none := fun b hb o e =>
          let z := I'.pin (b, o) (List.mem_append_right _ (List.mem_append_right _ (mem_pinsAt hb e)))
          ⟨z.1, z.2.1⟩
        have hl : (wipe σ (own.map (·.2))).length = σ8.length := by rw [← hw8, wipe_length]
        refine ⟨m', hm, i + 1, H', (I'.unpinned (pins := [])).weak hl (fun j v e => ?_), T.keep _ _ _ st7 fun b hb o e => (pin' b hb o e).1, fun b hb => ?_, w'⟩
        · rw [← hw8] at e
          exact (wipe_some e).1
        · obtain ⟨o, e, _⟩ := T.obj _ _ st7 b hb
          exact (pin' b hb o e).2
      cases b with
      | false =>
        simp only [Bool.false_eq_true, if_false] at q9 ⊢
        exact fin I9 q9
      | true =>
        simp only [if_true] at q9 ⊢
        refine wpAny_mono (pe.run _ s9 σ8 H9 _ (I9.wish _) q9) (fun z s10 hz => ?_) fun u s' c => comp_err tk hst hf I3 cL hcf ff c
        obtain ⟨yv, H10, I10, r10, acc, hD10, hz10, nx⟩ := hz
        exact app_ok (X := X.blk s3 H3 scope ce fp) I10.unwish hD10 hz10 r10 fun s11 I11 => fin I11 nx
  rw [hs4, hs3, hce, hs3] at loop
  rw [← hD] at loop
  exact codeAny_compStart_list loop (T.self X.A 0 _ _ _ (by rw [hs4, hs3] at st4; exact st4) loop)
end L2

set_option maxHeartbeats 8000000
namespace PA
open PySem L2 RZ TS
open C8 (pss_cut tCut)
def evO : Option Nat → V
  | none => .non
  | some n => .int (n : Int)
theorem cell_evO {H : Hp} (o : Option Nat) : Cell H (evO o) := by
  cases o with
  | none => exact .non
  | some n => exact .int _
/-- a word looked up -/
def wOf (y x : Str) : V := if x = y then .bl true else if x = "stay" then .bl false else .non
theorem cell_wOf {H : Hp} (y x : Str) : Cell H (wOf y x) := by
  unfold wOf
  split
  · exact .bl _
  · split
    · exact .bl _
    · exact .non
theorem kget_words {K : PySem.W.Frag} {w : World} {d : Addr} {y : Str} {h1 h2 : Int} {t1 t2 : Tok} {n : Nat} (l : K.lookup d = some { cls := .type "dict", data := .dict #[⟨h1, .str y t1, .bool true⟩, ⟨h2, .str "stay" t2, .bool false⟩] n })
    (k : PySem.W.KeysLit w.params (#[⟨h1, .str y t1, .bool true⟩, ⟨h2, .str "stay" t2, .bool false⟩] : Array DictEntry).toList) (lo : (d == sysModules) = false) (x : Str) : KGet K w d x (wOf y x) := by
  have hn : PySem.W.nsIn K d x = some (if x = y then some (.bool true) else if x = "stay" then some (.bool false) else none) := by
    unfold PySem.W.nsIn
    rw [l]
    show (match ([⟨h1, .str y t1, .bool true⟩, ⟨h2, .str "stay" t2, .bool false⟩] : List DictEntry).find? (·.key.isStr x) with
      | some e => some (some e.val)
      | none => if ([⟨h1, .str y t1, .bool true⟩, ⟨h2, .str "stay" t2, .bool false⟩] : List DictEntry).any (·.refKey) then none else some none) = _
    by_cases e1 : x = y
    · rw [if_pos e1, List.find?_cons_of_pos (by show (y == x) = true; rw [e1]; simp)]
    · rw [if_neg e1, List.find?_cons_of_neg (by show ¬ (y == x) = true; simp; exact fun z => e1 z.symm)]
      by_cases e2 : x = "stay"
      · rw [if_pos e2, List.find?_cons_of_pos (by show (("stay" : Str) == x) = true; rw [e2]; simp)]
      · rw [if_neg e2, List.find?_cons_of_neg (by show ¬ (("stay" : Str) == x) = true; simp; exact fun z => e2 z.symm)]
        rfl
  refine ⟨_, n, _, l, k, lo, hn, ?_⟩
  unfold wOf
  split
  · exact rfl
  · split
    · exact rfl
    · exact rfl
structure TxtW (K : PySem.W.Frag) (w : World) (mg : Str → Option Value) : Prop where
  fl : ∃ d, mg "FALLS_OF_WORD" = some (.ref d) ∧ ∀ x, KGet K w d x (wOf "fall" x)
  go : ∃ d, mg "GOES_OF_WORD" = some (.ref d) ∧ ∀ x, KGet K w d x (wOf "go" x)
def rowC (w0 w1 w2 w3 : Str) : List V := [evO (rdW w0), wOf "fall" w1, evO (rdW w2), wOf "go" w3]
/-- the cells that a piece of a text is read as -/
def cellsOf (p : Str) : List V := match PySem.Txt.split p " " with
  | [w0, w1, w2, w3] => rowC w0 w1 w2 w3
  | _ => []
/-- the cells of the starts -/
def stC (bar tail : Str) : List V := if bar = Str.empty then [.int 0] else (PySem.Txt.split tail " ").map fun w => evO (rdW w)
theorem rd_int {i : Int} (h0 : 0 ≤ i) (h1 : i < 48) : evO (rdW (intS i)) = .int i := by
  have e : ((i.toNat : Nat) : Int) = i := Int.toNat_of_nonneg h0
  have e2 : intS i = numS i.toNat := by unfold intS numS; rw [e]
  rw [e2, TR.rd_num (by omega)]
  show V.int ((i.toNat : Nat) : Int) = _
  rw [e]
theorem wf_fall (b : Bool) : wOf "fall" (fallS b) = .bl b := by cases b <;> decide +kernel
theorem wf_go (b : Bool) : wOf "go" (goS b) = .bl b := by cases b <;> decide +kernel
theorem cells_row {r : Rw} (h : RwOk 48 r) : cellsOf (rowTx r) = rv r := by
  unfold cellsOf
  rw [split_row h]
  show [evO (rdW (intS r.1)), wOf "fall" (fallS r.2.1), evO (rdW (intS r.2.2.1)), wOf "go" (goS r.2.2.2)] = _
  rw [rd_int h.1.1 h.1.2, rd_int h.2.1 h.2.2, wf_fall, wf_go]
  rfl
def IsTxt (t : Str) : Prop := ∃ rows starts k, Good rows starts k ∧ t = ruleTx rows starts
theorem root_le {i k : Int} (h : Root i k) : i ≤ 16 := by cases h <;> decide
theorem gd48 {rows : List Rw} {starts : List Int} {k : Int} (g : Good rows starts k) : (∀ r ∈ rows, RwOk 48 r) ∧ (∀ s ∈ starts, 0 ≤ s ∧ s < 48) ∧ starts.length ≤ 16 ∧ starts ≠ [] ∧ rows ≠ [] := by
  have h48 := g.most
  have h1 := g.one
  have r16 := root_le g.root
  refine ⟨fun r hr => ?_, fun s hs => ?_, by omega, ?_, ?_⟩
  · obtain ⟨⟨a0, a1⟩, c0, c1⟩ := g.ok r hr
    exact ⟨⟨a0, by omega⟩, c0, by omega⟩
  · have := g.st s hs
    omega
  · rintro rfl
    have := g.root
    cases this
  · rintro rfl
    exact absurd h1 (by decide)
theorem cells_good {rows : List Rw} {starts : List Int} {k : Int} (g : Good rows starts k) {body bar tail : Str} (hp : PySem.Txt.partition (ruleTx rows starts) " | " = (body, bar, tail)) :
    (PySem.Txt.split body "; ").map cellsOf = rows.map rv ∧ stC bar tail = starts.map V.int ∧ ∀ pc ∈ PySem.Txt.split body "; ", (PySem.Txt.split pc " ").length = 4 := by
  obtain ⟨h1, h2, h3, h4, h5⟩ := gd48 g
  have key : body = rowsTx rows ∧ stC bar tail = starts.map V.int := by
    by_cases hz : starts = [0]
    · rw [hz, part_plain h1, plain_eq] at hp
      cases hp
      exact ⟨rfl, by rw [hz]; rfl⟩
    · rw [part_bar h1 hz] at hp
      cases hp
      refine ⟨rfl, ?_⟩
      unfold stC
      rw [if_neg (by decide +kernel), split_words h4 h2, List.map_map]
      exact List.map_congr_left fun s hs => rd_int (h2 s hs).1 (h2 s hs).2
  obtain ⟨e1, e2⟩ := key
  subst e1
  rw [split_rows h5 h1]
  refine ⟨?_, e2, fun pc hpc => ?_⟩
  · rw [List.map_map]
    exact List.map_congr_left fun r hr => cells_row (h1 r hr)
  · obtain ⟨r, hr, rfl⟩ := List.mem_map.mp hpc
    rw [split_row (h1 r hr)]
    rfl
theorem tab_good {rows : List Rw} {starts : List Int} {k : Int} (g : Good rows starts k) : tabOk (rows.map rv) (starts.map V.int) = true := by
  have bel : ∀ {n : Nat} {i : Int}, 0 ≤ i → i < (n : Int) → below n (.int i) = true := fun {n i} h h' => by
    show (decide (0 ≤ i) && decide (i < (n : Int))) = true
    rw [decide_eq_true h, decide_eq_true h']
    rfl
  unfold tabOk
  rw [List.length_map, List.length_map, decide_eq_true g.one, decide_eq_true g.most]
  have r1 : ((rows.map rv).all (rowOk rows.length)) = true := by
    rw [List.all_eq_true]
    intro x hx
    obtain ⟨r, hr, rfl⟩ := List.mem_map.mp hx
    obtain ⟨⟨a0, a1⟩, c0, c1⟩ := g.ok r hr
    show (below rows.length (.int r.1) && below rows.length (.int r.2.2.1) && (isB (.bl r.2.1) && isB (.bl r.2.2.2))) = true
    rw [bel a0 a1, bel c0 c1]
    rfl
  have r2 : isRt (starts.length : Int) = true := by
    have := g.root
    generalize (starts.length : Int) = z at this ⊢
    cases this <;> rfl
  have r3 : ((starts.map V.int).all (below rows.length)) = true := by
    rw [List.all_eq_true]
    intro x hx
    obtain ⟨s, hs, rfl⟩ := List.mem_map.mp hx
    exact bel (g.st s hs).1 (g.st s hs).2
  rw [r1, r2, r3]
  rfl
theorem rv_inj {r r' : Rw} (h : rv r = rv r') : r = r' := by
  unfold rv at h
  simp only [List.cons.injEq, and_true, V.int.injEq, V.bl.injEq] at h
  exact Prod.ext h.1 (Prod.ext h.2.1 (Prod.ext h.2.2.1 h.2.2.2))
theorem rows_inj {rs rs' : List Rw} (h : rs.map rv = rs'.map rv) : rs = rs' := TS.map_inj_on (fun x _ y _ e => rv_inj e) h
theorem ints_inj {ss ss' : List Int} (h : ss.map V.int = ss'.map V.int) : ss = ss' := TS.map_inj_on (fun x _ y _ e => by injection e) h
def spReadSt : Sp := fun vs H Q _ => ∃ w : Str, vs = [.str w] ∧ w.length ≤ 9000 ∧ Q (evO (rdW w)) H
def spReadRow (X : Addr) : Sp := fun vs H Q E => ∃ p : Str, vs = [.str p] ∧ p.length ≤ 8000 ∧ (∀ w0 w1 w2 w3, PySem.Txt.split p " " = [w0, w1, w2, w3] → ∀ t H', Same H H' → H t = none → H' t = some (.tup (rowC w0 w1 w2 w3)) → Q (.ref t) H') ∧
  ((PySem.Txt.split p " ").length ≠ 4 → ∀ H', Same H H' → E (.ref X) none H')
def spRead (K : PySem.W.Frag) (C X : Addr) : Sp := fun vs H Q E => ∃ t : Str, vs = [.str t] ∧ t.length ≤ 8000 ∧ (∀ rows starts k, Good rows starts k → t = ruleTx rows starts → ∀ p H', Same H H' → H p = none → RuleAt K C H' p rows starts k → Q (.ref p) H') ∧ (¬ IsTxt t → ∀ H', Same H H' → E (.ref X) none H')
/-- a Rule is made, or refused -/
theorem mk_rule {K : PySem.W.Frag} {C X : Addr} {H : Hp} {Q : VK} {E : XK} {G S : Addr} {refs starts : List V} {rows : List (List V)} (hG : H G = some (.lst refs) ∨ H G = some (.tup refs)) (hE : Ea H TLc refs rows) (hS : H S = some (.lst starts) ∨ SqT K H S starts) (hl : rows.length ≤ 9000) (hl2 : starts.length ≤ 9000)
    (hc : ∀ r ∈ rows, ∀ x ∈ r, Cell H x) (hc2 : ∀ x ∈ starts, Cell H x) {x dx : Addr} (nx : H x = none) (ndx : H dx = none) (nex : dx ≠ x)
    (kg : ∀ rs ss k, rows = rs.map rv → starts = ss.map V.int → Good rs ss k → ∀ H', Same H H' → RuleAt K C H' x rs ss k → Q .non H') (kb : tabOk rows starts = false → ∀ H', Same H H' → E (.ref X) none H') : spInit K C X [V.ref x, V.ref G, V.ref S] (upd (upd H dx (.own x)) x (.ins C dx [])) Q E := by
  have s1 : Same H (upd (upd H dx (.own x)) x (.ins C dx [])) := fun c o e => by
    rw [upd_ne (ne_of_none e nx), upd_ne (ne_of_none e ndx)]
    exact e
  refine ⟨x, dx, G, S, refs, rows, starts, rfl, upd_same, hG.imp (fun q => s1 _ _ q) (fun q => s1 _ _ q), hE.imp fun c r q => q.imp (fun q => s1 _ _ q) (fun q => s1 _ _ q), hS.imp (fun q => s1 _ _ q) (fun q => SqT.up q s1), hl, hl2,
    fun r hr v hv => (hc r hr v hv).kin (Kin.same s1), fun v hv => (hc2 v hv).kin (Kin.same s1), fun rs ss k H' e1 e2 g r kp => kg rs ss k e1 e2 g H' (fun c o e => kp c o (s1 _ _ e) (ne_of_none e nx)) r, fun bad H' kp => kb bad H' fun c o e => kp c o (s1 _ _ e) (ne_of_none e nx)⟩
section
variable {P : Program} {w : World} {K : PySem.W.Frag} {mg : Str → Option Value} {base : Heap} {C X PE_ : Addr}
theorem scReadSt : FnScope ["word"] ["word"] (defScope sReadSt) := ⟨rfl, rfl, rfl, by decide +kernel, rfl, by decide +kernel, by decide +kernel⟩
theorem ok_readSt {f : Addr} {fd : FuncData} (F : Fun K "read_state" "read_state" sReadSt f fd) (T : Txt K mg C) : FnOk P w K mg base CX0 1 f fd ["word"] spReadSt := by
  refine F.ok scReadSt (fun vs H Q E h => ?_) (fun cdv A outer s H vs Q E hr h => ?_)
  · obtain ⟨v, rfl, _⟩ := h
    rfl
  · obtain ⟨v, rfl, hl, k⟩ := h
    refine ⟨_, pss_cons (ps_if (PW.pt (pw_or (pt_cmpR op_gt (pe_callB call_len_str (by rfl) T.len_ PySem.boot_len (pa_cons (pv 0) pa_nil)) pe_int (nomark _))
        (pw_or (pt_not (pt_val (pe_bm0 PySem.F.plainAttrs_str PySem.F.slot_str_isascii PySem.F.type_str_isascii mt_isascii (pv 0)))) (pw_or1 (pt_not (pt_val (pe_bm0 PySem.F.plainAttrs_str PySem.F.slot_str_isdigit PySem.F.type_str_isdigit mt_isdigit (pv 0)))))))) (pss_one (ps_ret pe_non)) pss_nil)
      (pss_one (ps_ret (pe_callTy call_int_str (by rfl) T.int_ boot_int' (pa_cons (pv 0) pa_nil)))), ?_⟩
    refine ⟨_, rfl, v, rfl, Nat.le_trans hl (by decide), _, _, rfl, rfl, _, rfl, ifD_2 (fun h2 => iteT ?_) (fun h2 => ?_)⟩
    · rw [TS.rdW_none (fun z => by have := z.1; omega)] at k
      exact k
    have h2' : v.length ≤ 2 := by omega
    refine ⟨_, rfl, rfl, v, rfl, rfl, trivial, _, rfl, ?_⟩
    cases ha : PySem.Txt.isascii v with
    | false =>
      rw [TS.rdW_none (fun z => by rw [ha] at z; exact absurd z.2.1 (by decide))] at k
      exact iteT k
    | true =>
      refine iteF ⟨_, rfl, rfl, v, rfl, rfl, trivial, _, rfl, ?_⟩
      cases hd : PySem.Txt.isdigit v with
      | false =>
        rw [TS.rdW_none (fun z => by rw [hd] at z; exact absurd z.2.2 (by decide))] at k
        exact iteT k
      | true =>
        obtain ⟨n, e1, e2⟩ := TS.rdW_some h2' ha hd
        rw [e1] at k
        exact iteF ⟨_, rfl, v, (n : Int), rfl, e2, Nat.le_trans h2' (by decide), k⟩
theorem scReadRow : FnScope ["piece", "words", "falls", "goes"] ["piece"] (defScope sReadRow) := ⟨rfl, rfl, rfl, by decide +kernel, rfl, by decide +kernel, by decide +kernel⟩
theorem ok_readRow {f g : Addr} {fd gd : FuncData} (F : Fun K "_read_row" "_read_row" sReadRow f fd) (T : Txt K mg C) (TX : TxtX K mg X PE_) (TW : TxtW K w mg) (D : Df K mg "read_state" sReadSt g gd ["word"]) : FnOk P w K mg base (L2.CX P w) 2 f fd ["piece"] (spReadRow X) := by
  have G : FnOk P w K mg base CX0 1 g gd ["word"] spReadSt := ok_readSt D.F T
  obtain ⟨df, hdf, hfl⟩ := TW.fl
  obtain ⟨dg, hdg, hgo⟩ := TW.go
  refine F.okX scReadRow (fun vs H Q E h => ?_) (fun cdv A outer s H vs Q E hr h => ?_)
  · obtain ⟨r, rfl, _⟩ := h
    rfl
  · obtain ⟨p, rfl, hl, kg, kb⟩ := h
    refine ⟨_, pss_cons (ps_set (i := 1) scReadRow.nd rfl (Or.inl rfl) (pe_bm PySem.F.plainAttrs_str PySem.F.slot_str_split PySem.F.type_str_split mt_split (pv 0) (pa_cons pe_str pa_nil)))
      (pss_cons (ps_if (pt_cmpR op_ne (pe_callB call_len_seq (by rfl) T.len_ PySem.boot_len (pa_cons (pv 1) pa_nil)) pe_int (nomark _)) (pss_one (ps_raise rfl (takes_of rfl rfl rfl rfl) (pmk_own PySem.F.excBase_ValueError TX.x TX.g TX.k (raises_own TX.b TX.t) (by rfl)))) pss_nil)
      (pss_cons (ps_set (i := 2) scReadRow.nd rfl (Or.inl rfl) (pe_kget (pe_glob (v := .ref df) rfl hdf rfl) (pe_ix ix_list (pv 1) pe_int (fun _ _ => rfl))))
      (pss_cons (ps_set (i := 3) scReadRow.nd rfl (Or.inl rfl) (pe_kget (pe_glob (v := .ref dg) rfl hdg rfl) (pe_ix ix_list (pv 1) pe_int (fun _ _ => rfl))))
      (pss_one (ps_ret (pe_tup (pa_cons (pe_call G hr rfl D.M D.F.kp D.B .nil pass0 (pa_cons (pe_ix ix_list (pv 1) pe_int (fun _ _ => rfl)) pa_nil)) (pa_cons (pv 2) (pa_cons (pe_call G hr rfl D.M D.F.kp D.B .nil pass0 (pa_cons (pe_ix ix_list (pv 1) pe_int (fun _ _ => rfl)) pa_nil)) (pa_cons (pv 3) pa_nil)))))))))), ?_⟩
    have hws := TS.split_len p " " (by decide +kernel)
    have hpl : ∀ w ∈ PySem.Txt.split p " ", w.length ≤ 9000 := fun w hw => Nat.le_trans (TS.part_len hw) (by omega)
    refine ⟨_, rfl, rfl, _, _, rfl, rfl, by decide +kernel, Nat.le_trans (Nat.add_le_add_right hl 2) (by decide), fun u hu => ?_⟩
    generalize PySem.Txt.split p " " = ws at hws hpl kg kb ⊢
    have su := new_ (o := .lst (ws.map V.str)) hu
    have huu : (upd H u (.lst (ws.map V.str))) u = some (.lst (ws.map V.str)) := upd_same
    generalize (upd H u (.lst (ws.map V.str))) = H1 at su huu ⊢
    refine ⟨_, rfl, u, _, rfl, .inl (SqL.of huu), rfl, _, rfl, ?_⟩
    by_cases h4 : ws.length = 4
    rotate_left
    · refine ifN_yes (by rw [List.length_map]; intro z; injection z with z; exact h4 (by omega)) ?_
      exact kb h4 H1 su
    obtain ⟨w0, w1, w2, w3, rfl⟩ : ∃ a b c d, ws = [a, b, c, d] := by
      match ws, h4 with
      | [a, b, c, d], _ => exact ⟨a, b, c, d, rfl⟩
    refine iteNS rfl ?_
    have hpp : H1 u = some (.lst [.str w0, .str w1, .str w2, .str w3]) := huu
    refine ⟨df, rfl, ⟨_, _, hfl "fall"⟩, _, rfl, u, _, _, _, rfl, rfl, SqL.of hpp, rfl, _, _, rfl, hfl w1, ?_⟩
    refine ⟨dg, rfl, ⟨_, _, hgo "go"⟩, _, rfl, u, _, _, _, rfl, rfl, SqL.of hpp, rfl, _, _, rfl, hgo w3, ?_⟩
    refine ⟨_, rfl, u, _, _, _, rfl, rfl, SqL.of hpp, rfl, w0, rfl, hpl _ (by simp), _, rfl, _, rfl, u, _, _, _, rfl, rfl, SqL.of hpp, rfl, w2, rfl, hpl _ (by simp), _, rfl, by show 4 ≤ sizeLine; decide, fun t ht => ?_⟩
    exact kg w0 w1 w2 w3 rfl t _ (su.trans (new_ ht)) (su.none ht) upd_same
end
end PA

set_option maxHeartbeats 8000000
namespace PA
open PySem L2 RZ TS
open C8 (pss_cut tCut)
/-- what makes and writes Rules -/
structure LibR (K : PySem.W.Frag) (w : World) (mg : Str → Option Value) (C X PE_ fI dd g1 g2 g3 g4 fS s1 s2 s3 r1 r2 : Addr) (dI gd1 gd2 gd3 gd4 dS sd1 sd2 sd3 rd1 rd2 : FuncData) : Prop where
  T : Txt K mg C
  TX : TxtX K mg X PE_
  TS : TxtS K mg
  TW : TxtW K w mg
  I : FunI K fI dI dd
  M : Mk K C fI
  b2 : Binds K dI ["self", "rows", "starts"] []
  D1 : Df K mg "is_integer" sIsInt g1 gd1 ["value"]
  D2 : Df K mg "is_below" sBelow g2 gd2 ["value", "count"]
  D3 : Df K mg "_is_row" sIsRow g3 gd3 ["row", "count"]
  D4 : Df K mg "_check_table" sCheck g4 gd4 ["rows", "starts"]
  FS : Fun K "__str__" "Rule.__str__" sStr fS dS
  bS : Binds K dS ["self"] []
  mS : Meth K C "__str__" fS
  S1 : Df K mg "_rows_text" sRowsTx s1 sd1 ["rows"]
  S2 : Df K mg "_row_text" sRowTx s2 sd2 ["row"]
  S3 : Df K mg "_starts_text" sStartsTx s3 sd3 ["starts"]
  R1 : Df K mg "read_state" sReadSt r1 rd1 ["word"]
  R2 : Df K mg "_read_row" sReadRow r2 rd2 ["piece"]
abbrev NRead : List Str := ["text", "body", "bar", "tail", "starts", "rule", "word", "piece"]
theorem rule_same {K : PySem.W.Frag} {C : Addr} {H H' : Hp} {p : Addr} {rows : List Rw} {starts : List Int} {k : Int} (r : RuleAt K C H p rows starts k) (s : Same H H') : RuleAt K C H' p rows starts k := r.same s
section
variable {P : Program} {w : World} {K : PySem.W.Frag} {mg : Str → Option Value} {base : Heap} {C X PE_ fI dd g1 g2 g3 g4 fS s1 s2 s3 r1 r2 : Addr} {dI gd1 gd2 gd3 gd4 dS sd1 sd2 sd3 rd1 rd2 : FuncData}
theorem scRead : FnScope NRead ["text"] (defScope sRead) := ⟨rfl, rfl, rfl, by decide +kernel, rfl, by decide +kernel, by decide +kernel⟩
theorem ok_read {f : Addr} {fd : FuncData} (F : Fun K "read" "Rule.read" sRead f fd) (L : LibR K w mg C X PE_ fI dd g1 g2 g3 g4 fS s1 s2 s3 r1 r2 dI gd1 gd2 gd3 gd4 dS sd1 sd2 sd3 rd1 rd2) : FnOk P w K mg base (L2.CX P w) 7 f fd ["text"] (spRead K C X) := by
  have T := L.T
  have TX := L.TX
  obtain ⟨dp, hdp, hpl⟩ := L.TS.plain
  have GI : FnOk P w K mg base (L2.CX P w) 5 fI dI ["self", "rows", "starts"] (spInit K C X) := ok_init L.I T TX L.D1 L.D2 L.D3 L.D4
  have GS : FnOk P w K mg base CX0 3 fS dS ["self"] (spStr K C) := ok_str L.FS T L.TS L.S1 L.S2 L.S3
  have GRs : FnOk P w K mg base CX0 1 r1 rd1 ["word"] spReadSt := ok_readSt L.R1.F T
  have GRr : FnOk P w K mg base (L2.CX P w) 2 r2 rd2 ["piece"] (spReadRow X) := ok_readRow L.R2.F T TX L.TW L.R1
  refine F.okX scRead (fun vs H Q E h => ?_) (fun cdv A outer s H vs Q E hr h => ?_)
  · obtain ⟨_, rfl, _⟩ := h
    rfl
  · obtain ⟨t, rfl, hl, kg, kb⟩ := h
    have hr1 : Room 1 _ := hr.mono (by decide)
    have hr2 : Room 2 _ := hr.mono (by decide)
    have hr5 : Room 5 _ := hr.mono (by decide)
    refine ⟨_, pss_cons (ps_asg (pe_bm PySem.F.plainAttrs_str PySem.F.slot_str_partition PySem.F.type_str_partition mt_partition (pv 0) (pa_cons pe_str pa_nil)) (pg_tup rfl (pgs_cons (pg_name (i := 1) scRead.nd rfl (Or.inl rfl)) (pgs_cons (pg_name (i := 2) scRead.nd rfl (Or.inl rfl)) (pgs_cons (pg_name (i := 3) scRead.nd rfl (Or.inl rfl)) pgs_nil)))))
      (pss_cut (ps_set (i := 4) scRead.nd rfl (Or.inl rfl) (pe_ifExp (pt_truth (pv 2) (fun _ => rfl)) (pe_lc (own := [("word", 6)]) (g := gName 6) (tt := tYes) (by rfl) scRead.nd (pi_list (pe_bm PySem.F.plainAttrs_str PySem.F.slot_str_split PySem.F.type_str_split mt_split (pv 3) (pa_cons pe_str pa_nil))) (blkOk_by (N := NRead) (sc := defScope sRead) (by decide +kernel))
          (fun _ _ _ _ _ => pg_name (i := 6) scRead.nd rfl (Or.inl rfl)) (fun _ _ _ _ _ => pts_nil)
          (fun _ _ _ _ _ => pe_call GRs hr1 rfl L.R1.M L.R1.F.kp L.R1.B .nil pass0 (pa_cons (pv 6) pa_nil))) (pe_glob (v := .ref dp) rfl hdp rfl)))
      (pss_cons (ps_set (i := 5) scRead.nd rfl (Or.inl rfl) (pe_make (E := E) L.M GI hr rfl T.mgC L.b2 .nil (passes_call (takes_of rfl rfl rfl rfl) (fun _ _ _ _ z => z)) (pa_cons (pe_lcX (E := E) (own := [("piece", 7)]) (g := gName 7) (tt := tYes) (takes_of rfl rfl rfl rfl) rfl rfl (by rfl) scRead.nd (pi_list (pe_bm PySem.F.plainAttrs_str PySem.F.slot_str_split PySem.F.type_str_split mt_split (pv 1) (pa_cons pe_str pa_nil))) (blkOk_by (N := NRead) (sc := defScope sRead) (by decide +kernel))
          (fun _ _ _ _ _ => pg_name (i := 7) scRead.nd rfl (Or.inl rfl)) (fun _ _ _ _ _ => pts_nil)
          (fun _ _ _ _ _ => pe_call (E := E) GRr hr2 rfl L.R2.M L.R2.F.kp L.R2.B .nil pass_blk (pa_cons (pv 7) pa_nil))) (pa_cons (pv 4) pa_nil))))
      (pss_cons (ps_if (pt_cmpR op_ne (pe_callTy (call_strOwn (E := E0) L.mS.at_ L.mS.fn GS hr5 L.bS pass0) (by rfl) L.TS.str_ boot_str' (pa_cons (pv 5) pa_nil)) (pv 0) (nomark _)) (pss_one (ps_raise rfl (takes_of rfl rfl rfl rfl) (pmk_own PySem.F.excBase_ValueError TX.x TX.g TX.k (raises_own TX.b TX.t) (by rfl)))) pss_nil)
      (pss_one (ps_ret (pv 5)))))), ?_⟩
    obtain ⟨pl1, pl2, pl3⟩ := TR.part_len t " | "
    have big : ∀ {n : Nat}, n ≤ 20000 → n ≤ sizeLine := fun h => Nat.le_trans h (by decide)
    refine ⟨_, rfl, rfl, _, _, rfl, rfl, by decide +kernel, big (by omega), fun p hp => ?_⟩
    generalize hpart : PySem.Txt.partition t " | " = pt at pl1 pl2 pl3 hp ⊢
    obtain ⟨body, bar, tail⟩ := pt
    have pl1 : body.length ≤ t.length := pl1
    have pl2 : bar = " | " ∨ bar = Str.empty := pl2
    have pl3 : tail.length ≤ t.length := pl3
    -- what a text of a rule gives
    have good : ∀ rows starts k, Good rows starts k → t = ruleTx rows starts → (PySem.Txt.split body "; ").map cellsOf = rows.map rv ∧ stC bar tail = starts.map V.int ∧ ∀ pc ∈ PySem.Txt.split body "; ", (PySem.Txt.split pc " ").length = 4 := fun rows starts k g e => by
      rw [e] at hpart
      exact cells_good g hpart
    have sp := new_ (o := .tup [.str body, .str bar, .str tail]) hp
    refine ⟨p, _, rfl, SqT.of upd_same, rfl, _, _, rfl, _, _, rfl, _, _, rfl, rfl, ?_⟩
    generalize (upd H p (.tup [.str body, .str bar, .str tail])) = H0 at sp
    refine ⟨fun σ' H' => ∃ S, σ' = [some (.str t), some (.str body), some (.str bar), some (.str tail), some (.ref S), none, none, none] ∧ Same H0 H' ∧ (H' S = some (.lst (stC bar tail)) ∨ SqT K H' S (stC bar tail)), ?_, ?_⟩
    · rcases pl2 with rfl | rfl
      · refine ⟨_, rfl, true, ⟨by show (" | " : Str).length ≤ sizeLine; decide +kernel, by show true = ((((" | " : Str).length : Nat) : Int) != 0); decide +kernel⟩, iteT ?_⟩
        have hws := TS.split_len tail " " (by decide +kernel)
        refine ⟨_, rfl, rfl, _, _, rfl, rfl, by decide +kernel, big (by omega), fun q hq => ⟨q, rfl, ⟨_, SqL.of upd_same⟩, fun Dd hD => ?_⟩⟩
        have sq := new_ (o := .lst ((PySem.Txt.split tail " ").map V.str)) hq
        have hqq : (upd H0 q (.lst ((PySem.Txt.split tail " ").map V.str))) q = some (.lst ((PySem.Txt.split tail " ").map V.str)) := upd_same
        generalize (upd H0 q (.lst ((PySem.Txt.split tail " ").map V.str))) = H1 at sq hqq hD
        have est : stC " | " tail = (PySem.Txt.split tail " ").map fun w => evO (rdW w) := by
          unfold stC
          rw [if_neg (by decide +kernel)]
        rw [est]
        refine lc_same (xs := (PySem.Txt.split tail " ").map V.str) (walk_l (K := K) (a := q) (xs := (PySem.Txt.split tail " ").map V.str)) (by rw [List.length_map]; exact big (by omega)) hD (fun H' s' => SqL.of (s' _ _ hqq)) ((PySem.Txt.split tail " ").map fun w => evO (rdW w)) (by simp) (fun i x y H' Φ Ψ hx hy sm kf => ?_) fun H2 s2 hd2 => ⟨Dd, rfl, sq.trans s2, .inl hd2⟩
        rw [List.getElem?_map, Option.map_eq_some_iff] at hx
        obtain ⟨z, hz1, rfl⟩ := hx
        rw [List.getElem?_map, hz1] at hy
        cases hy
        refine ⟨rfl, ?_⟩
        dsimp only [tYes]
        rw [if_pos rfl]
        have := TS.part_len (List.mem_of_getElem? hz1)
        exact ⟨_, rfl, z, rfl, by omega, kf H' fun _ _ e => e⟩
      · refine ⟨_, rfl, false, ⟨Nat.zero_le _, rfl⟩, iteF ⟨dp, rfl, fun _ _ e => e, .inr ?_⟩⟩
        exact hpl _
    rintro _ H1 ⟨S, rfl, s1', hS⟩
    have hps := TS.split_len body "; " (by decide +kernel)
    refine ⟨_, rfl, rfl, _, _, rfl, rfl, by decide +kernel, big (by omega), fun q hq => ⟨q, rfl, ⟨_, SqL.of upd_same⟩, fun Dd hD => ?_⟩⟩
    have sq := new_ (o := .lst ((PySem.Txt.split body "; ").map V.str)) hq
    have hqq : (upd H1 q (.lst ((PySem.Txt.split body "; ").map V.str))) q = some (.lst ((PySem.Txt.split body "; ").map V.str)) := upd_same
    generalize (upd H1 q (.lst ((PySem.Txt.split body "; ").map V.str))) = H2 at sq hqq hD
    have hpl' : ∀ p ∈ PySem.Txt.split body "; ", p.length ≤ 8000 := fun p hp => Nat.le_trans (TS.part_len hp) (by omega)
    have s02 := (sp.trans s1').trans sq
    have stl : (stC bar tail).length ≤ 9000 := by
      unfold stC
      split
      · simp
      · rw [List.length_map]
        have := TS.split_len tail " " (by decide +kernel)
        omega
    have stcell : ∀ H : Hp, ∀ x ∈ stC bar tail, Cell H x := fun H x hx => by
      unfold stC at hx
      split at hx
      · rw [List.mem_singleton.mp hx]
        exact .int _
      · obtain ⟨wd, _, rfl⟩ := List.mem_map.mp hx
        exact cell_evO _
    generalize hpcs : PySem.Txt.split body "; " = pcs at hqq hps hpl' hD good ⊢
    generalize hstc : stC bar tail = st at hS good stl stcell
    refine lc_acc (xs := pcs.map V.str) (walk_l (K := K) (a := q) (xs := pcs.map V.str)) (by rw [List.length_map]; exact big (by omega)) hD (fun H' s' => SqL.of (s' _ _ hqq)) (fun i acc H' => Ea H' isC acc ((pcs.map cellsOf).take i)) (fun i acc H' e => by rw [e.1, List.length_take, List.length_map]; omega) (by rw [List.take_zero]; exact Ea.nil) (fun i x H' acc Φ Ψ hi hx sm hd he kf => ?_) fun H3 acc s3 hd he => ?_
    · rw [List.getElem?_map, Option.map_eq_some_iff] at hx
      obtain ⟨pc, hpc, rfl⟩ := hx
      have hpcm := List.mem_of_getElem? hpc
      refine ⟨rfl, ?_⟩
      dsimp only [tYes]
      rw [if_pos rfl]
      refine ⟨_, rfl, pc, rfl, hpl' pc hpcm, fun w0 w1 w2 w3 ew De H5 s45 hDe hd5 => ?_, fun bad H5 s45 => kb ?_ H5 ((s02.trans sm).trans s45)⟩
      · have hd' := s45 _ _ hd
        refine kf _ H5 s45 hd' fun H6 h6 b1 b2 => ?_
        have ec : cellsOf pc = rowC w0 w1 w2 w3 := by unfold cellsOf; rw [ew]
        rw [take_succ' (show (pcs.map cellsOf)[i]? = some (rowC w0 w1 w2 w3) by rw [List.getElem?_map, hpc]; exact congrArg some ec)]
        exact Ea.push (he.imp fun c r z => TupOf.but (s45 _ _ z) hd' b1) (TupOf.but (f := id) hd5 hd' b1)
      · rintro ⟨rows, starts, k, g, e⟩
        exact bad ((good rows starts k g e).2.2 pc hpcm)
    rw [List.length_map, List.take_of_length_le (by rw [List.length_map]; exact Nat.le_refl _)] at he
    have s13 := s02.trans s3
    have hS3 : H3 S = some (.lst st) ∨ SqT K H3 S st := hS.imp (fun q => s3 _ _ (sq _ _ q)) fun q => SqT.up q (sq.trans s3)
    refine ⟨_, rfl, ?_⟩
    intro x dx nx ndx nex
    refine mk_rule (C := C) (X := X) (.inl hd) (he.imp fun c r z => .inl z) hS3 (by rw [List.length_map]; omega) stl (fun r hr x hx => ?_) (stcell H3) nx ndx nex (fun rs ss k e1 e2 g H4 s4 r4 => ?_) fun bad H4 s4 => kb ?_ H4 (s13.trans s4)
    · obtain ⟨pc, _, rfl⟩ := List.mem_map.mp hr
      unfold cellsOf at hx
      split at hx
      · unfold rowC at hx
        simp only [List.mem_cons, List.not_mem_nil, or_false] at hx
        rcases hx with rfl | rfl | rfl | rfl
        · exact cell_evO _
        · exact cell_wOf _ _
        · exact cell_evO _
        · exact cell_wOf _ _
      · cases hx
    · obtain ⟨dx4, R4, S4, refs4, hx4, hR4, hE4, hS4⟩ := id r4
      obtain ⟨h1, h2, h3, h4, h5⟩ := gd48 g
      refine ⟨rfl, _, rfl, x, dx4, _, rfl, hx4, x, rs, ss, k, rfl, r4, g.most, h1, h3, h2, fun H5 s5 => ⟨_, rfl, _, rfl, rfl, _, rfl, ?_⟩⟩
      by_cases ht : ruleTx rs ss = t
      · rw [decide_eq_true (by rw [ht])]
        refine iteF ⟨_, rfl, ?_⟩
        exact kg rs ss k g ht.symm x H5 ((s13.trans s4).trans s5) (s13.none nx) (r4.same s5)
      · rw [decide_eq_false (fun z => ht (by injection z))]
        refine iteT (kb ?_ H5 ((s13.trans s4).trans s5))
        rintro ⟨rows, starts, k', g', e'⟩
        obtain ⟨q1, q2, _⟩ := good rows starts k' g' e'
        have a1 := rows_inj (q1.symm.trans e1)
        have a2 := ints_inj (q2.symm.trans e2)
        exact ht (by rw [e', a1, a2])
    · rintro ⟨rows, starts, k', g', e'⟩
      obtain ⟨q1, q2, _⟩ := good rows starts k' g' e'
      rw [q1, q2, tab_good g'] at bad
      cases bad
end
end PA

set_option maxHeartbeats 8000000
namespace PA
open PySem L2 RZ TS
open C8 (pss_cut tCut)
def rIxLK (K : PySem.W.Frag) : R2 := fun x y H Q => ∃ p xs i v, x = .ref p ∧ y = .int i ∧ SqL K H p xs ∧ atI xs i = some v ∧ Q v H
theorem ix_listK {X : Cx} {K : PySem.W.Frag} (h : X.K = K) : IxR X (rIxLK K) := h ▸ ix_list
/-- the law's own texts -/
def wTx (r : Rw) : Str := (((fallS r.2.1 ++ (" " : Str)) ++ intS r.2.2.1) ++ (" " : Str)) ++ goS r.2.2.2
def pTx (r : Rw) : Str := (intS r.1 ++ (" " : Str)) ++ wTx r
theorem pTx_eq (r : Rw) : pTx r = rowTx r := by
  apply cs_inj
  unfold pTx wTx rowTx
  simp only [cs_app, cs_empty, List.nil_append, List.append_assoc]
theorem wTx_le {r : Rw} (h : RwOk 48 r) : (wTx r).length ≤ 1931 := by
  obtain ⟨⟨a0, a1⟩, c0, c1⟩ := h
  have q1 := app_le (fallS_le r.2.1) sp_le
  have q2 := app_le q1 (intS_le c0 c1)
  have q3 := app_le q2 sp_le
  exact Nat.le_trans (app_le q3 (goS_le r.2.2.2)) (by decide)
theorem intsL_zero (ns : List Int) : PyData.eqv (.list (ns.map PyData.int)) (.list [.int 0]) = decide (ns = [0]) := by
  cases ns with
  | nil => simp [PyData.eqv, PyData.eqvAll]
  | cons z zs =>
    cases zs with
    | nil =>
      by_cases hz : z = 0
      · subst hz; simp [PyData.eqv, PyData.eqvAll]
      · simp [PyData.eqv, PyData.eqvAll, hz]
    | cons y ys => simp [PyData.eqv, PyData.eqvAll]
theorem text_bar {rows : List Rw} {starts : List Int} (h : starts ≠ [0]) : (rowsTx rows ++ (" | " : Str)) ++ wordsTx starts = ruleTx rows starts := by
  apply cs_inj
  unfold ruleTx startsTx
  rw [if_neg h]
  simp only [cs_app, cs_empty, List.nil_append, List.append_assoc]
def spText : Sp := fun vs H Q _ => ∃ (R S : Addr) (refs : List V) (rows : List Rw) (starts : List Int) (k : Int), vs = [.ref R, .ref S] ∧ H R = some (.lst refs) ∧ Each H isT refs rows ∧ H S = some (.lst (starts.map V.int)) ∧ Good rows starts k ∧ ∀ H', Same H H' → Q (.str (ruleTx rows starts)) H'
section
variable {P : Program} {w : World} {K : PySem.W.Frag} {mg : Str → Option Value} {base : Heap} {C : Addr}
theorem scText : FnScope ["_law_rows", "_law_starts", "_law_words", "_law_text", "_law_row", "_law_k", "_law_start_here"] ["_law_rows", "_law_starts"] (defScope sText) := ⟨rfl, rfl, rfl, by decide +kernel, rfl, by decide +kernel, by decide +kernel⟩
theorem ok_text {f : Addr} {fd : FuncData} (F : Fun K "_law_m_text" "_law_m_text" sText f fd) (T : Txt K mg C) (TS : TxtS K mg) : FnOk P w K mg base CX0 1 f fd ["_law_rows", "_law_starts"] spText := by
  refine F.ok scText (fun vs H Q E h => ?_) (fun cdv A outer s H vs Q E hr h => ?_)
  · obtain ⟨R, S, _, _, _, _, rfl, _⟩ := h
    rfl
  · obtain ⟨R, S, refs, rows, starts, k, rfl, hR, hE, hS, gd, kk⟩ := h
    refine ⟨_, pss_cons (ps_set (i := 2) scText.nd rfl (Or.inr rfl) (pe_lc (own := [("_law_row", 4)]) (g := gName 4) (tt := tYes) (by rfl) scText.nd (pi_list (pv 0)) (blkOk_by (N := ["_law_rows", "_law_starts", "_law_words", "_law_text", "_law_row", "_law_k", "_law_start_here"]) (sc := defScope sText) (by decide +kernel))
          (fun _ _ _ _ _ => pg_name (i := 4) scText.nd rfl (Or.inl rfl)) (fun _ _ _ _ _ => pts_nil)
          (fun _ _ _ _ _ => pe_op op_add_str (pe_op op_add_str (pe_op op_add_str (pe_op op_add_str (pe_ix (ix_listK (K := K) rfl) (pe_lst (pa_cons pe_str (pa_cons pe_str pa_nil))) (pe_callTy call_int1 (by rfl) T.int_ boot_int' (pa_cons (pe_ix (ix_tupK (K := K) rfl) (pv 4) pe_int (fun _ _ => rfl)) pa_nil)) (fun _ _ => rfl)) pe_str)
            (pe_callTy call_str_int (by rfl) TS.str_ boot_str' (pa_cons (pe_ix (ix_tupK (K := K) rfl) (pv 4) pe_int (fun _ _ => rfl)) pa_nil))) pe_str)
            (pe_ix (ix_listK (K := K) rfl) (pe_lst (pa_cons pe_str (pa_cons pe_str pa_nil))) (pe_callTy call_int1 (by rfl) T.int_ boot_int' (pa_cons (pe_ix (ix_tupK (K := K) rfl) (pv 4) pe_int (fun _ _ => rfl)) pa_nil)) (fun _ _ => rfl)))))
      (pss_cons (ps_set (i := 3) scText.nd rfl (Or.inl rfl) (pe_join pe_str (pe_lc (own := [("_law_k", 5)]) (g := gName 5) (tt := tYes) (by rfl) scText.nd (pi_range1 (by rfl) T.range_ (pa_cons (pe_callB call_len_seq (by rfl) T.len_ PySem.boot_len (pa_cons (pv 0) pa_nil)) pa_nil)) (blkOk_by (N := ["_law_rows", "_law_starts", "_law_words", "_law_text", "_law_row", "_law_k", "_law_start_here"]) (sc := defScope sText) (by decide +kernel))
          (fun _ _ _ _ _ => pg_name (i := 5) scText.nd rfl (Or.inl rfl)) (fun _ _ _ _ _ => pts_nil)
          (fun _ _ _ _ _ => pe_op op_add_str (pe_op op_add_str (pe_callTy call_str_int (by rfl) TS.str_ boot_str' (pa_cons (pe_ix (ix_tupK (K := K) rfl) (pe_ix (ix_listK (K := K) rfl) (pv 0) (pv 5) (fun _ _ => rfl)) pe_int (fun _ _ => rfl)) pa_nil)) pe_str) (pe_ix (ix_listK (K := K) rfl) (pv 2) (pv 5) (fun _ _ => rfl))))))
      (pss_cons (ps_if (pt_cmpR (op_eqD hr.units) (pe_callTy call_list_of (by rfl) T.list_ boot_list' (pa_cons (pv 1) pa_nil)) (pe_lst (pa_cons pe_int pa_nil)) (nomark _)) (pss_one (ps_ret (pv 3))) pss_nil)
      (pss_one (ps_ret (pe_op op_add_str (pe_op op_add_str (pv 3) pe_str) (pe_join pe_str (pe_lc (own := [("_law_start_here", 6)]) (g := gName 6) (tt := tYes) (by rfl) scText.nd (pi_list (pv 1)) (blkOk_by (N := ["_law_rows", "_law_starts", "_law_words", "_law_text", "_law_row", "_law_k", "_law_start_here"]) (sc := defScope sText) (by decide +kernel))
          (fun _ _ _ _ _ => pg_name (i := 6) scText.nd rfl (Or.inl rfl)) (fun _ _ _ _ _ => pts_nil)
          (fun _ _ _ _ _ => pe_callTy call_str_int (by rfl) TS.str_ boot_str' (pa_cons (pv 6) pa_nil))))))))), ?_⟩
    obtain ⟨h1, h2, h3, h4, h5⟩ := gd48 gd
    have hlr : refs.length = rows.length := hE.1
    have h48 := gd.most
    have big : ∀ {n : Nat}, n ≤ 300000 → n ≤ sizeLine := fun h => Nat.le_trans h (by decide)
    refine ⟨_, rfl, R, rfl, ⟨_, SqL.of hR⟩, fun Dd hD => ?_⟩
    refine lc_same (xs := refs) (walk_l (K := K) (a := R) (xs := refs)) (by rw [hlr]; exact Nat.le_trans h48 (by decide)) hD (fun H' s' => SqL.of (s' _ _ hR)) ((rows.map wTx).map V.str) (by simp [hlr]) (fun i x y H' Φ Ψ hx hy sm kf => ?_) fun H1 s1 hd1 => ?_
    · rw [List.getElem?_map, List.getElem?_map, Option.map_eq_some_iff] at hy
      obtain ⟨y1, hy, rfl⟩ := hy
      rw [Option.map_eq_some_iff] at hy
      obtain ⟨r, hr', rfl⟩ := hy
      obtain ⟨c, rfl, hc⟩ := hE.2 i x _ hx hr'
      obtain ⟨⟨a0, a1⟩, c0, c1⟩ := h1 r (List.mem_of_getElem? hr')
      obtain ⟨ra, rb, rc, rd⟩ := r
      have hcS := sm _ _ hc
      refine ⟨rfl, ?_⟩
      dsimp only [tYes]
      rw [if_pos rfl]
      refine ⟨by show 2 ≤ sizeLine; decide, fun p hp => ?_⟩
      have sp := Same.new (o := .lst [.str "stay", .str "fall"]) hp
      have q1 := app_le (fallS_le rb) sp_le
      have q2 := app_le q1 (intS_le c0 c1)
      have q3 := app_le q2 sp_le
      have l1 : ∀ {a b : Str}, a.length + b.length ≤ 300000 → a.length + b.length ≤ sizeLine := fun h => big h
      refine ⟨_, rfl, c, _, _, _, rfl, rfl, SqT.of (sp _ _ hcS), rfl, .inr ⟨rb, rfl, p, _, _, .str (fallS rb), rfl, rfl, SqL.of upd_same, by cases rb <;> rfl, _, _, rfl, rfl, big (Nat.le_trans (Nat.add_le_add (fallS_le rb) sp_le) (by decide)), ?_⟩⟩
      refine ⟨_, rfl, c, _, _, _, rfl, rfl, SqT.of (sp _ _ hcS), rfl, rc, rfl, small_log c0 c1, _, _, rfl, rfl, big (Nat.le_trans (Nat.add_le_add q1 (intS_le c0 c1)) (by decide)), _, _, rfl, rfl, big (Nat.le_trans (Nat.add_le_add q2 sp_le) (by decide)), ?_⟩
      refine ⟨by show 2 ≤ sizeLine; decide, fun q hq => ?_⟩
      have sq := Same.new (o := .lst [.str "stay", .str "go"]) hq
      refine ⟨_, rfl, c, _, _, _, rfl, rfl, SqT.of (sq _ _ (sp _ _ hcS)), rfl, .inr ⟨rd, rfl, q, _, _, .str (goS rd), rfl, rfl, SqL.of upd_same, by cases rd <;> rfl, _, _, rfl, rfl, big (Nat.le_trans (Nat.add_le_add q3 (goS_le rd)) (by decide)), ?_⟩⟩
      exact kf _ (sp.trans sq)
    refine ⟨⟨_, rfl⟩, _, rfl, R, _, rfl, .inl (SqL.of (s1 _ _ hR)), _, rfl, by omega, by omega, fun De hE' => ?_⟩
    refine lc_range (n := ((refs.length : Int)).toNat) (fun i H' => Same H1 H' ∧ H' De = some (.lst (((rows.take i).map pTx).map V.str))) ?_ ?_ ?_
    · exact ⟨Same.new hE', by rw [List.take_zero]; exact upd_same⟩
    · rintro i H' hi ⟨sm, hd⟩
      have hi' : i < rows.length := by omega
      have hr' : rows[i]? = some rows[i] := List.getElem?_eq_getElem hi'
      have hw' : ((rows.map wTx).map V.str)[i]? = some (.str (wTx rows[i])) := by rw [List.getElem?_map, List.getElem?_map, hr']; rfl
      obtain ⟨c, hc, hcc⟩ : ∃ c, refs[i]? = some (.ref c) ∧ isT H c rows[i] := by
        have hx : refs[i]? = some refs[i] := List.getElem?_eq_getElem (by omega)
        obtain ⟨c, e, q⟩ := hE.2 i _ _ hx hr'
        exact ⟨c, by rw [hx, e], q⟩
      have hok := h1 _ (List.getElem_mem hi')
      obtain ⟨⟨a0, a1⟩, _⟩ := id hok
      refine ⟨rfl, ?_⟩
      dsimp only [tYes]
      rw [if_pos rfl]
      have hci : atI refs (0 + (i : Int)) = some (.ref c) := by rw [Int.zero_add]; exact atI_nat hc
      have hwi : atI ((rows.map wTx).map V.str) (0 + (i : Int)) = some (.str (wTx rows[i])) := by rw [Int.zero_add]; exact atI_nat hw'
      refine ⟨_, rfl, _, rfl, R, _, _, _, rfl, rfl, SqL.of (sm _ _ (s1 _ _ hR)), hci, c, _, _, _, rfl, rfl, SqT.of (sm _ _ (s1 _ _ hcc)), rfl, rows[i].1, rfl, small_log a0 a1, _, _, rfl, rfl, big (Nat.le_trans (Nat.add_le_add (intS_le a0 a1) sp_le) (by decide)), ?_⟩
      have qq := app_le (intS_le a0 a1) sp_le
      refine ⟨_, rfl, _, rfl, Dd, _, _, _, rfl, rfl, SqL.of (sm _ _ hd1), hwi, _, _, rfl, rfl, big (Nat.le_trans (Nat.add_le_add qq (wTx_le hok)) (by decide)), _, hd, ?_, ?_, ?_⟩
      · rw [List.length_map, List.length_map, List.length_take]
        exact Nat.lt_of_le_of_lt (Nat.le_trans (Nat.min_le_left _ _) (Nat.le_of_lt hi')) (Nat.lt_of_le_of_lt h48 (by decide))
      · intro c' o e
        rw [upd_ne (ne_of_none e hE')]
        exact sm _ _ e
      · rw [upd_same, take_succ' hr', List.map_append, List.map_append]
        rfl
    rintro H2 ⟨s2, hd2⟩
    have ept : (rows.take ((refs.length : Int)).toNat).map pTx = rows.map rowTx := by
      rw [show ((refs.length : Int)).toNat = rows.length from by omega, List.take_length]
      exact List.map_congr_left fun r _ => pTx_eq r
    rw [ept] at hd2
    refine ⟨_, De, rows.map rowTx, rfl, rfl, .inl (SqL.of hd2), ?_, ?_⟩
    · have h1' := sum_le (m := 4000) (rows.map rowTx) fun y hy => by
        obtain ⟨r, hr, rfl⟩ := List.mem_map.mp hy
        exact rowTx_le (h1 r hr)
      rw [List.length_map] at h1' ⊢
      have h2' : ("; " : Str).length = 2 := by decide +kernel
      rw [h2']
      omega
    have s12 := s1.trans s2
    refine ⟨_, rfl, S, _, rfl, .inl (SqL.of (s12 _ _ hS)), fun p hp => ⟨by show 1 ≤ sizeLine; decide, fun q hq => ?_⟩⟩
    have sp := Same.new (o := .lst (starts.map V.int)) hp
    have sq := Same.new (o := .lst [.int 0]) hq
    have spq := sp.trans sq
    refine ⟨.list (starts.map PyData.int), .list [.int 0], .lst (SqL.of (sq _ _ upd_same)) (dp_ints starts), .lst (SqL.of upd_same) (.cons (.int 0) .nil), ints_shaped starts, ints_shaped [0], _, rfl, ?_⟩
    rw [intsL_zero]
    refine ifD_2 (fun hz => ?_) (fun hz => ?_)
    · have := kk _ (s12.trans spq)
      have e : ruleTx rows starts = rowsTx rows := by rw [hz, plain_eq]
      rw [e] at this
      exact ⟨_, rfl, this⟩
    · have hrl := rows_le h48 h1
      have h3l : (" | " : Str).length ≤ 3 := by decide +kernel
      have qq := app_le hrl h3l
      refine ⟨_, rfl, _, _, rfl, rfl, big (Nat.le_trans (Nat.add_le_add hrl h3l) (by decide)), ⟨_, rfl⟩, _, rfl, S, rfl, ⟨_, SqL.of (spq _ _ (s12 _ _ hS))⟩, fun Df hF => ?_⟩
      refine lc_same (xs := starts.map V.int) (walk_l (K := K) (a := S) (xs := starts.map V.int)) (by simp; exact Nat.le_trans h3 (by decide)) hF (fun H' s' => SqL.of (s' _ _ (spq _ _ (s12 _ _ hS)))) ((starts.map intS).map V.str) (by simp) (fun i x y H' Φ Ψ hx hy sm kf => ?_) fun H3 s3 hd3 => ?_
      · rw [List.getElem?_map, Option.map_eq_some_iff] at hx
        obtain ⟨z, hz1, rfl⟩ := hx
        rw [List.getElem?_map, List.getElem?_map, hz1] at hy
        cases hy
        have hzz := h2 z (List.mem_of_getElem? hz1)
        refine ⟨rfl, ?_⟩
        dsimp only [tYes]
        rw [if_pos rfl]
        exact ⟨_, rfl, z, rfl, small_log hzz.1 hzz.2, kf H' fun _ _ e => e⟩
      have hw := words_le h3 h2
      have hwl : (wordsTx starts).length ≤ 40000 := Nat.le_trans (join_le " " (starts.map intS)) hw
      refine ⟨_, Df, starts.map intS, rfl, rfl, .inl (SqL.of hd3), Nat.le_trans hw (by decide), _, _, rfl, rfl, big (Nat.le_trans (Nat.add_le_add qq hwl) (by decide)), ?_⟩
      have := kk H3 ((s12.trans spq).trans s3)
      rw [← text_bar hz] at this
      exact this
end
end PA

set_option maxHeartbeats 8000000
namespace PA
open PySem L2 RZ TS
open C8 (pss_cut tCut)
/-! ### the bridge to the texts as lists of parts -/
def toL (r : Rw) : TR.Lr := (r.1.toNat, r.2.1, r.2.2.1.toNat, r.2.2.2)
theorem intS_num {i : Int} (h : 0 ≤ i) : intS i = numS i.toNat := by
  have e : ((i.toNat : Nat) : Int) = i := Int.toNat_of_nonneg h
  unfold intS numS
  rw [e]
theorem row_TR {r : Rw} (h0 : 0 ≤ r.1) (h1 : 0 ≤ r.2.2.1) : rowTx r = TR.rowS (toL r) := by
  rw [rowTx_join, PA.join_eq]
  unfold rowWords TR.rowS toL
  rw [intS_num h0, intS_num h1]
  rfl
theorem rows_TR {rows : List Rw} (h : ∀ r ∈ rows, 0 ≤ r.1 ∧ 0 ≤ r.2.2.1) : rowsTx rows = TR.rtx (rows.map toL) := by
  unfold rowsTx TR.rtx
  rw [PA.join_eq, List.map_map]
  exact congrArg _ (List.map_congr_left fun r hr => row_TR (h r hr).1 (h r hr).2)
theorem words_TR {starts : List Int} (h : ∀ s ∈ starts, 0 ≤ s) : wordsTx starts = TR.stx (starts.map Int.toNat) := by
  unfold wordsTx TR.stx
  rw [PA.join_eq, List.map_map]
  exact congrArg _ (List.map_congr_left fun s hs => intS_num (h s hs))
theorem zero_nat {starts : List Int} (h : ∀ s ∈ starts, 0 ≤ s) : starts.map Int.toNat = [0] ↔ starts = [0] := by
  constructor
  · intro e
    obtain ⟨s, rfl⟩ : ∃ s, starts = [s] := by
      cases starts with
      | nil => simp at e
      | cons s r =>
        cases r with
        | nil => exact ⟨s, rfl⟩
        | cons _ _ => simp at e
    have h0 := h s (by simp)
    have e : s.toNat = 0 := by simpa using e
    have : s = 0 := by omega
    rw [this]
  · rintro rfl
    rfl
theorem good_TR {rows : List Rw} {starts : List Int} {k : Int} (g : Good rows starts k) : TR.GoodR (rows.map toL) (starts.map Int.toNat) := by
  refine ⟨by rw [List.length_map]; exact g.one, by rw [List.length_map]; exact g.most, fun l hl => ?_, ?_, fun s hs => ?_⟩
  · obtain ⟨r, hr, rfl⟩ := List.mem_map.mp hl
    obtain ⟨⟨a0, a1⟩, c0, c1⟩ := g.ok r hr
    rw [List.length_map]
    exact ⟨by show r.1.toNat < _; omega, by show r.2.2.1.toNat < _; omega⟩
  · rw [List.length_map]
    have := g.root
    generalize hz : (starts.length : Int) = z at this
    cases this
    · rw [show starts.length = 1 from by omega]; rfl
    · rw [show starts.length = 4 from by omega]; rfl
    · rw [show starts.length = 9 from by omega]; rfl
    · rw [show starts.length = 16 from by omega]; rfl
  · obtain ⟨x, hx, rfl⟩ := List.mem_map.mp hs
    have := g.st x hx
    rw [List.length_map]
    omega
theorem nonneg {rows : List Rw} {starts : List Int} {k : Int} (g : Good rows starts k) : (∀ r ∈ rows, 0 ≤ r.1 ∧ 0 ≤ r.2.2.1) ∧ ∀ s ∈ starts, 0 ≤ s := ⟨fun r hr => ⟨(g.ok r hr).1.1, (g.ok r hr).2.1⟩, fun s hs => (g.st s hs).1⟩
theorem txt_TR {rows : List Rw} {starts : List Int} {k : Int} (g : Good rows starts k) : ruleTx rows starts = TR.txt (rows.map toL) (starts.map Int.toNat) := by
  obtain ⟨n1, n2⟩ := nonneg g
  unfold TR.txt
  by_cases h : starts = [0]
  · rw [if_pos ((zero_nat n2).mpr h), h, plain_eq, rows_TR n1]
  · rw [if_neg fun z => h ((zero_nat n2).mp z), ← text_bar h, rows_TR n1, words_TR n2]
theorem parts_good {rows : List Rw} {starts : List Int} {k : Int} (g : Good rows starts k) : (starts = [0] ∧ PySem.Txt.split (ruleTx rows starts) " | " = [rowsTx rows]) ∨ (starts ≠ [0] ∧ PySem.Txt.split (ruleTx rows starts) " | " = [rowsTx rows, wordsTx starts]) := by
  obtain ⟨n1, n2⟩ := nonneg g
  have gr := good_TR g
  rw [txt_TR g]
  by_cases h : starts = [0]
  · refine .inl ⟨h, ?_⟩
    subst h
    rw [rows_TR n1]
    exact TR.parts_plain gr
  · refine .inr ⟨h, ?_⟩
    rw [rows_TR n1, words_TR n2]
    exact TR.parts_bar gr fun z => h ((zero_nat n2).mp z)
theorem txt_le {rows : List Rw} {starts : List Int} {k : Int} (g : Good rows starts k) : (ruleTx rows starts).length ≤ 870 := by
  rw [txt_TR g]
  exact TR.txt_len (good_TR g)
/-! ### words among words -/
abbrev tx (ss : List Str) : List V := ss.map V.str
theorem eqV_strs (a b : Str) : eqV (.str a) (.str b) = decide (a = b) := by
  show (a == b) = decide (a = b)
  rw [Bool.eq_iff_iff]
  simp
theorem inV_tx (s : Str) (ss : List Str) : inV (.str s) (tx ss) = decide (s ∈ ss) := by
  unfold inV
  rw [Bool.eq_iff_iff, List.any_eq_true]
  simp only [decide_eq_true_eq]
  constructor
  · rintro ⟨x, hx, e⟩
    obtain ⟨z, hz, rfl⟩ := List.mem_map.mp hx
    rw [eqV_strs, decide_eq_true_eq] at e
    rw [← e]
    exact hz
  · intro h
    exact ⟨.str s, List.mem_map.mpr ⟨s, h, rfl⟩, by rw [eqV_strs, decide_eq_true_eq]⟩
theorem tx_flat (ss : List Str) : (tx ss).all flatV = true := by
  rw [List.all_eq_true]
  intro x hx
  obtain ⟨z, _, rfl⟩ := List.mem_map.mp hx
  rfl
theorem op_in_seqK {X : Cx} {K : PySem.W.Frag} (h : X.K = K) : OpR X (compareOp .In) (rIn K false) := h ▸ op_in_seq
def nums : List Str := (List.range 48).map numS
theorem nums_in {n : Nat} (h : n < 48) : numS n ∈ nums := List.mem_map.mpr ⟨n, List.mem_range.mpr h, rfl⟩
theorem nums_out {w : Str} (h : w ∈ nums) : ∃ n, n < 48 ∧ w = numS n := by
  obtain ⟨n, hn, rfl⟩ := List.mem_map.mp h
  exact ⟨n, List.mem_range.mp hn, rfl⟩
theorem nums_at {n : Nat} (h : n < 48) : (tx nums)[n]? = some (.str (numS n)) := by
  unfold nums
  rw [List.getElem?_map, List.getElem?_map, List.getElem?_range h]
  rfl
/-- the law's number of a piece -/
def numL (w : Str) : Int := if w ∈ nums then (((rdW w).getD 0 : Nat) : Int) else -1
theorem numL_num {n : Nat} (h : n < 48) : numL (numS n) = (n : Int) := by
  unfold numL
  rw [if_pos (nums_in h), TR.rd_num h]
  rfl
theorem numL_no {w : Str} (h : w ∉ nums) : numL w = -1 := if_neg h
theorem numL_back {w : Str} (h : 0 ≤ numL w) : ∃ n, n < 48 ∧ w = numS n ∧ numL w = (n : Int) := by
  by_cases hw : w ∈ nums
  · obtain ⟨n, hn, rfl⟩ := nums_out hw
    exact ⟨n, hn, rfl, numL_num hn⟩
  · rw [numL_no hw] at h
    exact absurd h (by decide)
theorem numL_int {i : Int} (h0 : 0 ≤ i) (h1 : i < 48) : numL (intS i) = i := by
  rw [intS_num h0, numL_num (by omega)]
  exact Int.toNat_of_nonneg h0
def spNum : Sp := fun vs H Q _ => ∃ w : Str, vs = [.str w] ∧ ∀ H', Same H H' → Q (.int (numL w)) H'
abbrev NNum : List Str := ["_law_piece", "_law_some", "_law_k"]
section
variable {P : Program} {w : World} {K : PySem.W.Frag} {mg : Str → Option Value} {base : Heap} {C X PE_ : Addr}
theorem scNum : FnScope NNum ["_law_piece"] (defScope sNumber) := ⟨rfl, rfl, rfl, by decide +kernel, rfl, by decide +kernel, by decide +kernel⟩
theorem ok_number {f : Addr} {fd : FuncData} (F : Fun K "_law_number" "_law_number" sNumber f fd) (T : Txt K mg C) (TS : TxtS K mg) : FnOk P w K mg base CX0 1 f fd ["_law_piece"] spNum := by
  refine F.ok scNum (fun vs H Q E h => ?_) (fun cdv A outer s H vs Q E hr h => ?_)
  · obtain ⟨o, rfl, _⟩ := h
    rfl
  · obtain ⟨wd, rfl, kk⟩ := h
    refine ⟨_, pss_cons (ps_setLc (i := 1) (own := [("_law_k", 2)]) (g := gName 2) (tt := tYes) (by rfl) scNum.nd rfl rfl (sw_true rfl rfl rfl (by decide +kernel)) (pi_range1 (by rfl) T.range_ (pa_cons pe_int pa_nil)) (blkOk_by (N := NNum) (sc := defScope sNumber) (by decide +kernel))
          (fun _ _ _ _ _ => pg_name (i := 2) scNum.nd rfl (Or.inl rfl)) (fun _ _ _ _ _ => pts_nil)
          (fun _ _ _ _ _ => pe_callTy call_str_int (by rfl) TS.str_ boot_str' (pa_cons (pv 2) pa_nil)))
      (pss_one (ps_ret (pe_ifExp (pt_cmpR op_in_seq (pv 0) (pv 1) rfl) (pe_bm PySem.F.plainAttrs_list PySem.F.slot_list_index PySem.F.type_list_index mt_index (pv 1) (pa_cons (pv 0) pa_nil)) (pe_un un_neg pe_int)))), ?_⟩
    refine ⟨48, rfl, by decide, by decide, fun NM hNM => ?_⟩
    refine lc_range (n := 48) (fun i H' => Same H H' ∧ H' NM = some (.lst (tx ((List.range i).map numS)))) ⟨new_ hNM, upd_same⟩ ?_ ?_
    · rintro i H' hi ⟨s', hn⟩
      refine ⟨rfl, ?_⟩
      dsimp only [tYes]
      rw [if_pos rfl]
      refine ⟨_, rfl, (i : Int), by rw [Int.zero_add], ?_, _, hn, ?_, fun c o e => ?_, ?_⟩
      · rw [Int.natAbs_natCast]
        exact Nat.lt_of_le_of_lt (Nat.log2_le_self i) (by omega)
      · rw [List.length_map, List.length_map, List.length_range]
        exact Nat.lt_of_lt_of_le hi (by decide)
      · rw [upd_ne (ne_of_none e hNM)]
        exact s' _ _ e
      · rw [upd_same, List.range_succ, List.map_append, tx, tx, List.map_append]
        rfl
    rintro H1 ⟨s1, hnm⟩
    have hnm : H1 NM = some (.lst (tx nums)) := hnm
    refine ⟨_, rfl, _, rfl, NM, _, rfl, .inl (SqL.of hnm), rfl, tx_flat _, _, rfl, ?_⟩
    show ite ((inV (.str wd) (tx nums)) = true) _ _
    rw [inV_tx]
    by_cases hw : wd ∈ nums
    · rw [decide_eq_true hw]
      obtain ⟨n, hn, rfl⟩ := nums_out hw
      refine iteT ⟨_, rfl, .inl ⟨rfl, _, SqL.of hnm⟩, _, rfl, NM, tx nums, .str (numS n), n, .str (numS n), rfl, rfl, SqL.of hnm, rfl, tx_flat _, nums_at hn, ?_, fun m z hm hz => ?_, ?_⟩
      · rw [eqV_strs, decide_eq_true rfl]
      · rw [nums_at (by omega)] at hz
        cases hz
        rw [eqV_strs]
        exact decide_eq_false fun e => absurd (TR.num_inj (by omega) hn e) (by omega)
      · have := kk H1 s1
        rw [numL_num hn] at this
        exact this
    · rw [decide_eq_false hw]
      have := kk H1 s1
      rw [numL_no hw] at this
      exact iteF ⟨1, rfl, this⟩
end
end PA

set_option maxHeartbeats 8000000
namespace PA
open PySem L2 RZ TS
open C8 (pss_cut tCut)
theorem pe_bmF {X : Cx} {K : PySem.W.Frag} (hK : X.K = K) {o e : PySem.Expr} {es : List PySem.Expr} {to : TE} {t : TA} {name : Str} {apos cpos : Pos} {T id : String} {r : V → List V → Hp → VK → Prop} (pa : PlainAttrs T) (sl : Slot T name id) (hty : typeOf (Value.builtin id) = pure (Value.type "method_descriptor")) (hm : MtR X id r) (ho : PE X o to) (ha : PA X (e :: es) t)
    (h1 : attributeBase o name X.env (eval o X.env) = eval o X.env := by rfl)
    (h2 : ((((backTo cpos (starEach (e :: es) X.env)).all fun x => !x.fst) && (backToKw cpos (keywordEach [] X.env)).all fun x => x.fst.isSome) && decide (((e :: es).length + ([] : List Keyword).length + if ([] : List Keyword).isEmpty = true then 0 else 1) < 30)) = true := by rfl)
    (h3 : (apos.endLine == cpos.line) = true := by rfl)
    (h4 : starEach (e :: es) X.env = (false, eval e X.env) :: starEach es X.env := by rfl)
    (h5 : ((backTo cpos (starEach es X.env)).any fun x => x.fst) = false := by rfl) : PE X ((o.Attribute name apos).Call (e :: es) [] cpos) (tBM K T r to t) := by
  subst hK
  exact pe_bm pa sl hty hm ho ha h1 h2 h3 h4 h5
/-- the words of a piece: whether they are a row's by form, and the row -/
def okW : List Str → Bool
  | [_, b, _, d] => decide (b ∈ (["fall", "stay"] : List Str)) && decide (d ∈ (["go", "stay"] : List Str))
  | _ => false
def rwOf : List Str → Rw
  | [a, b, c, d] => (numL a, decide (b = "fall"), numL c, decide (d = "go"))
  | _ => (0, false, 0, false)
theorem okW_row {r : Rw} (h : RwOk 48 r) : okW (PySem.Txt.split (rowTx r) " ") = true ∧ rwOf (PySem.Txt.split (rowTx r) " ") = r := by
  rw [split_row h]
  obtain ⟨ra, rb, rc, rd⟩ := r
  obtain ⟨⟨a0, a1⟩, c0, c1⟩ := h
  refine ⟨?_, ?_⟩
  · show (decide (fallS rb ∈ (["fall", "stay"] : List Str)) && decide (goS rd ∈ (["go", "stay"] : List Str))) = true
    cases rb <;> cases rd <;> decide +kernel
  · show (numL (intS ra), decide (fallS rb = "fall"), numL (intS rc), decide (goS rd = "go")) = (ra, rb, rc, rd)
    have e1 : numL (intS ra) = ra := numL_int a0 a1
    have e2 : numL (intS rc) = rc := numL_int c0 c1
    have e3 : decide (fallS rb = "fall") = rb := by cases rb <;> decide +kernel
    have e4 : decide (goS rd = "go") = rd := by cases rd <;> decide +kernel
    rw [e1, e2, e3, e4]
theorem word_fall {b : Str} (h : b ∈ (["fall", "stay"] : List Str)) : TR.fallS (decide (b = "fall")) = b := by
  simp only [List.mem_cons, List.not_mem_nil, or_false] at h
  rcases h with rfl | rfl <;> decide +kernel
theorem word_go {b : Str} (h : b ∈ (["go", "stay"] : List Str)) : TR.goS (decide (b = "go")) = b := by
  simp only [List.mem_cons, List.not_mem_nil, or_false] at h
  rcases h with rfl | rfl <;> decide +kernel
theorem row_of {pc : Str} (h : okW (PySem.Txt.split pc " ") = true) (h0 : 0 ≤ (rwOf (PySem.Txt.split pc " ")).1) (h1 : 0 ≤ (rwOf (PySem.Txt.split pc " ")).2.2.1) : pc = TR.rowS (toL (rwOf (PySem.Txt.split pc " "))) := by
  generalize hw : PySem.Txt.split pc " " = ws at h h0 h1 ⊢
  match ws, h with
  | [a, b, c, d], h =>
    have h : (decide (b ∈ (["fall", "stay"] : List Str)) && decide (d ∈ (["go", "stay"] : List Str))) = true := h
    rw [Bool.and_eq_true, decide_eq_true_eq, decide_eq_true_eq] at h
    have h0 : 0 ≤ numL a := h0
    have h1 : 0 ≤ numL c := h1
    obtain ⟨n, hn, ea, ea2⟩ := numL_back h0
    obtain ⟨m, hm, ec, ec2⟩ := numL_back h1
    refine TR.row_back ?_
    rw [hw]
    show [a, b, c, d] = [numS (numL a).toNat, TR.fallS (decide (b = "fall")), numS (numL c).toNat, TR.goS (decide (d = "go"))]
    rw [word_fall h.1, word_go h.2, ea2, ec2]
    show [a, b, c, d] = [numS n, b, numS m, d]
    rw [← ea, ← ec]
theorem rtx_of {p0 : Str} (h : ∀ pc ∈ PySem.Txt.split p0 "; ", okW (PySem.Txt.split pc " ") = true ∧ 0 ≤ (rwOf (PySem.Txt.split pc " ")).1 ∧ 0 ≤ (rwOf (PySem.Txt.split pc " ")).2.2.1) : p0 = TR.rtx (((PySem.Txt.split p0 "; ").map fun pc => rwOf (PySem.Txt.split pc " ")).map toL) := by
  refine TR.rtx_back ?_
  rw [List.map_map, List.map_map]
  conv => lhs; rw [← List.map_id (PySem.Txt.split p0 "; ")]
  exact List.map_congr_left fun pc hpc => row_of (h pc hpc).1 (h pc hpc).2.1 (h pc hpc).2.2
theorem stx_of {p1 : Str} (h : ∀ wd ∈ PySem.Txt.split p1 " ", 0 ≤ numL wd) : p1 = TR.stx (((PySem.Txt.split p1 " ").map numL).map Int.toNat) := by
  refine TR.stx_back ?_
  rw [List.map_map, List.map_map]
  conv => lhs; rw [← List.map_id (PySem.Txt.split p1 " ")]
  refine List.map_congr_left fun wd hwd => ?_
  obtain ⟨n, hn, e1, e2⟩ := numL_back (h wd hwd)
  show wd = numS (numL wd).toNat
  rw [e2]
  exact e1
theorem split_ne (x sep : Str) (h : PySem.Txt.split Str.empty sep ≠ []) : PySem.Txt.split x sep ≠ [] := fun e => by
  have q := StrLaws.join_split x sep
  rw [e] at q
  have q : Str.empty = x := by rw [← q]; exact (Str.join.eq_1 _).symm
  rw [← q] at e
  exact h e
/-- what the law reads: the rows and the starts -/
def rdRows (p0 : Str) : List Rw := (PySem.Txt.split p0 "; ").map fun pc => rwOf (PySem.Txt.split pc " ")
def rdStarts : List Str → List Int
  | [] => [0]
  | p1 :: _ => (PySem.Txt.split p1 " ").map numL
structure RdOk (t p0 : Str) (rest : List Str) : Prop where
  two : rest.length ≤ 1
  n48 : (PySem.Txt.split p0 "; ").length ≤ 48
  ok : ∀ pc ∈ PySem.Txt.split p0 "; ", okW (PySem.Txt.split pc " ") = true
  rt : TR.isRtN (rdStarts rest).length = true
  ne : rest.length = 1 → rdStarts rest ≠ [0]
  st : ∀ z ∈ rdStarts rest ++ (rdRows p0).map (·.1) ++ (rdRows p0).map (·.2.2.1), 0 ≤ z ∧ z < ((rdRows p0).length : Int)
theorem rd_good {rows : List Rw} {starts : List Int} {k : Int} (g : Good rows starts k) {p0 : Str} {rest : List Str} (h : PySem.Txt.split (ruleTx rows starts) " | " = p0 :: rest) : RdOk (ruleTx rows starts) p0 rest ∧ rdRows p0 = rows ∧ rdStarts rest = starts := by
  obtain ⟨h1, h2, h3, h4, h5⟩ := gd48 g
  have er : ∀ p, p = rowsTx rows → rdRows p = rows ∧ (PySem.Txt.split p "; ").length ≤ 48 ∧ ∀ pc ∈ PySem.Txt.split p "; ", okW (PySem.Txt.split pc " ") = true := by
    rintro _ rfl
    unfold rdRows
    rw [split_rows h5 h1, List.map_map, List.length_map]
    refine ⟨?_, g.most, fun pc hpc => ?_⟩
    · conv => rhs; rw [← List.map_id rows]
      exact List.map_congr_left fun r hr => (okW_row (h1 r hr)).2
    · obtain ⟨r, hr, rfl⟩ := List.mem_map.mp hpc
      exact (okW_row (h1 r hr)).1
  have key : p0 = rowsTx rows ∧ rdStarts rest = starts ∧ rest.length ≤ 1 ∧ (rest.length = 1 → starts ≠ [0]) := by
    rcases parts_good g with ⟨hz, e⟩ | ⟨hz, e⟩
    · rw [e] at h
      cases h
      exact ⟨rfl, hz.symm, by decide, fun z => absurd z (by decide)⟩
    · rw [e] at h
      cases h
      refine ⟨rfl, ?_, by simp, fun _ => hz⟩
      show (PySem.Txt.split (wordsTx starts) " ").map numL = starts
      rw [split_words h4 h2, List.map_map]
      conv => rhs; rw [← List.map_id starts]
      exact List.map_congr_left fun s hs => numL_int (h2 s hs).1 (h2 s hs).2
  obtain ⟨e1, e2, e3, e4⟩ := key
  obtain ⟨r1, r2, r3⟩ := er p0 e1
  refine ⟨⟨e3, r2, r3, by rw [e2]; have := (good_TR g).rt; rwa [List.length_map] at this, fun z => by rw [e2]; exact e4 z, fun z hz => ?_⟩, r1, e2⟩
  rw [e2, r1] at hz
  rw [r1]
  rcases List.mem_append.mp hz with hz | hz
  · rcases List.mem_append.mp hz with hz | hz
    · exact g.st z hz
    · obtain ⟨r, hr, rfl⟩ := List.mem_map.mp hz
      exact (g.ok r hr).1
  · obtain ⟨r, hr, rfl⟩ := List.mem_map.mp hz
    exact (g.ok r hr).2
theorem rd_back {t p0 : Str} {rest : List Str} (h : PySem.Txt.split t " | " = p0 :: rest) (o : RdOk t p0 rest) : ∃ k, Good (rdRows p0) (rdStarts rest) k ∧ t = ruleTx (rdRows p0) (rdStarts rest) := by
  have hr0 : ∀ r ∈ rdRows p0, RwOk (rdRows p0).length r := fun r hr =>
    ⟨o.st _ (List.mem_append_left _ (List.mem_append_right _ (List.mem_map.mpr ⟨r, hr, rfl⟩))), o.st _ (List.mem_append_right _ (List.mem_map.mpr ⟨r, hr, rfl⟩))⟩
  have hs0 : ∀ s ∈ rdStarts rest, 0 ≤ s ∧ s < ((rdRows p0).length : Int) := fun s hs => o.st _ (List.mem_append_left _ (List.mem_append_left _ hs))
  have hlen : (rdRows p0).length = (PySem.Txt.split p0 "; ").length := List.length_map _
  have h1 : 1 ≤ (rdRows p0).length := by
    rw [hlen]
    cases e : PySem.Txt.split p0 "; " with
    | nil => exact absurd e (split_ne p0 "; " (by decide +kernel))
    | cons _ _ => simp
  obtain ⟨k, hk⟩ : ∃ k, Root ((rdStarts rest).length : Int) k := by
    have := o.rt
    unfold TR.isRtN at this
    simp only [Bool.or_eq_true, decide_eq_true_eq] at this
    rcases this with ((e | e) | e) | e <;> rw [e]
    · exact ⟨_, .r1⟩
    · exact ⟨_, .r2⟩
    · exact ⟨_, .r3⟩
    · exact ⟨_, .r4⟩
  have g : Good (rdRows p0) (rdStarts rest) k := ⟨h1, by rw [hlen]; exact o.n48, hr0, hk, hs0⟩
  refine ⟨k, g, ?_⟩
  rw [txt_TR g]
  have ep : p0 = TR.rtx ((rdRows p0).map toL) := rtx_of fun pc hpc => by
    have hm : rwOf (PySem.Txt.split pc " ") ∈ rdRows p0 := List.mem_map.mpr ⟨pc, hpc, rfl⟩
    exact ⟨o.ok pc hpc, (hr0 _ hm).1.1, (hr0 _ hm).2.1⟩
  match rest, h, o.two, o.ne, hs0 with
  | [], h, _, _, _ =>
    refine TR.txt_back1 ?_
    rw [h, ← ep]
  | [p1], h, _, hne, hs0 =>
    have es : p1 = TR.stx ((rdStarts [p1]).map Int.toNat) := stx_of fun wd hwd => (hs0 _ (List.mem_map.mpr ⟨wd, hwd, rfl⟩)).1
    refine TR.txt_back2 (fun z => hne rfl ((zero_nat fun s hs => (hs0 s hs).1).mp z)) ?_
    rw [h, ← ep, ← es]
  | _ :: _ :: _, _, z, _, _ => exact absurd z (by simp)
end PA

set_option maxHeartbeats 8000000
namespace PA
open PySem L2 RZ TS
open C8 (pss_cut tCut)
def spReading : Sp := fun vs H Q _ => ∃ t : Str, vs = [.str t] ∧ t.length ≤ 8000 ∧ (∀ rows starts k, Good rows starts k → t = ruleTx rows starts → ∀ p R S refs H', Same H H' → H' p = some (.tup [.ref R, .ref S]) → H' R = some (.tup refs) → Each H' isT refs rows → H' S = some (.tup (starts.map V.int)) → Q (.ref p) H') ∧
  (¬ IsTxt t → ∀ H', Same H H' → Q .non H')
abbrev NRdg : List Str := ["_law_text", "_law_parts", "_law_words", "_law_rows", "_law_starts", "_law_states", "_law_piece", "_law_row", "_law_state"]
theorem bl_eqs (a b : Str) : decide (V.str a = V.str b) = decide (a = b) := decide_eq_decide.mpr ⟨fun h => by injection h, fun h => by rw [h]⟩
def LT (H : Hp) (c : Addr) (ws : List Str) : Prop := H c = some (.lst (tx ws))
section
variable {P : Program} {w : World} {K : PySem.W.Frag} {mg : Str → Option Value} {base : Heap} {C X PE_ : Addr}
theorem scRdg : FnScope NRdg ["_law_text"] (defScope sReading) := ⟨rfl, rfl, rfl, by decide +kernel, rfl, by decide +kernel, by decide +kernel⟩
theorem ok_reading {f g : Addr} {fd gd : FuncData} (F : Fun K "_law_reading" "_law_reading" sReading f fd) (T : Txt K mg C) (TSx : TxtS K mg) (D : Df K mg "_law_number" sNumber g gd ["_law_piece"]) : FnOk P w K mg base CX0 2 f fd ["_law_text"] spReading := by
  have G : FnOk P w K mg base CX0 1 g gd ["_law_piece"] spNum := ok_number D.F T TSx
  refine F.ok scRdg (fun vs H Q E h => ?_) (fun cdv A outer s H vs Q E hr h => ?_)
  · obtain ⟨o, rfl, _⟩ := h
    rfl
  · obtain ⟨t, rfl, hl, kg, kb⟩ := h
    refine ⟨_, pss_cons (ps_set (i := 1) scRdg.nd rfl (Or.inl rfl) (pe_bm PySem.F.plainAttrs_str PySem.F.slot_str_split PySem.F.type_str_split mt_split (pv 0) (pa_cons pe_str pa_nil)))
      (pss_cons (ps_setLc (i := 2) (own := [("_law_piece", 6)]) (g := gName 6) (tt := tYes) (by rfl) scRdg.nd rfl rfl (sw_true rfl rfl rfl (by decide +kernel)) (pi_list (pe_bm PySem.F.plainAttrs_str PySem.F.slot_str_split PySem.F.type_str_split mt_split (pe_ix ix_list (pv 1) pe_int (fun _ _ => rfl)) (pa_cons pe_str pa_nil))) (blkOk_by (N := NRdg) (sc := defScope sReading) (by decide +kernel))
          (fun _ _ _ _ _ => pg_name (i := 6) scRdg.nd rfl (Or.inl rfl)) (fun _ _ _ _ _ => pts_nil)
          (fun _ _ _ _ _ => pe_bmF (K := K) rfl PySem.F.plainAttrs_str PySem.F.slot_str_split PySem.F.type_str_split mt_split (pv 6) (pa_cons pe_str pa_nil)))
      (pss_cons (ps_if (PW.pt (pw_or (pt_cmpR op_gt (pe_callB call_len_seq (by rfl) T.len_ PySem.boot_len (pa_cons (pv 1) pa_nil)) pe_int (nomark _)) (pw_or1 (pt_cmpR op_gt (pe_callB call_len_seq (by rfl) T.len_ PySem.boot_len (pa_cons (pv 2) pa_nil)) pe_int (nomark _))))) (pss_one (ps_ret pe_non)) pss_nil)
      (pss_cons (ps_if (pt_not (pt_val (pe_callB (cr_all rfl) (by rfl) T.all_ boot_all' (pa_cons (pe_lc (own := [("_law_row", 7)]) (g := gName 7) (tt := tYes) (by rfl) scRdg.nd (pi_list (pv 2)) (blkOk_by (N := NRdg) (sc := defScope sReading) (by decide +kernel))
          (fun _ _ _ _ _ => pg_name (i := 7) scRdg.nd rfl (Or.inl rfl)) (fun _ _ _ _ _ => pts_nil)
          (fun _ _ _ _ _ => pe_and (pe_cmpR op_eq (pe_callB (call_lenK (K := K) rfl) (by rfl) T.len_ PySem.boot_len (pa_cons (pv 7) pa_nil)) pe_int (nomark _)) (pe_and (pe_cmpR (op_in_seqK (K := K) rfl) (pe_ix (ix_listK (K := K) rfl) (pv 7) pe_int (fun _ _ => rfl)) (pe_tup (pa_cons pe_str (pa_cons pe_str pa_nil))) rfl) (pe_one (pe_cmpR (op_in_seqK (K := K) rfl) (pe_ix (ix_listK (K := K) rfl) (pv 7) pe_int (fun _ _ => rfl)) (pe_tup (pa_cons pe_str (pa_cons pe_str pa_nil))) rfl))))) pa_nil)))) (pss_one (ps_ret pe_non)) pss_nil)
      (pss_cons (ps_set (i := 3) scRdg.nd rfl (Or.inr rfl) (pe_lc (own := [("_law_row", 7)]) (g := gName 7) (tt := tYes) (by rfl) scRdg.nd (pi_list (pv 2)) (blkOk_by (N := NRdg) (sc := defScope sReading) (by decide +kernel))
          (fun _ _ _ _ _ => pg_name (i := 7) scRdg.nd rfl (Or.inl rfl)) (fun _ _ _ _ _ => pts_nil)
          (fun _ _ _ _ _ => pe_tup (pa_cons (pe_call G hr rfl D.M D.F.kp D.B .nil pass0 (pa_cons (pe_ix (ix_listK (K := K) rfl) (pv 7) pe_int (fun _ _ => rfl)) pa_nil)) (pa_cons (pe_cmpR op_eq (pe_ix (ix_listK (K := K) rfl) (pv 7) pe_int (fun _ _ => rfl)) pe_str (nomark _)) (pa_cons (pe_call G hr rfl D.M D.F.kp D.B .nil pass0 (pa_cons (pe_ix (ix_listK (K := K) rfl) (pv 7) pe_int (fun _ _ => rfl)) pa_nil)) (pa_cons (pe_cmpR op_eq (pe_ix (ix_listK (K := K) rfl) (pv 7) pe_int (fun _ _ => rfl)) pe_str (nomark _)) pa_nil)))))))
      (pss_cut (ps_set (i := 4) scRdg.nd rfl (Or.inl rfl) (pe_ifExp (pt_cmpR op_eq (pe_callB call_len_seq (by rfl) T.len_ PySem.boot_len (pa_cons (pv 1) pa_nil)) pe_int (nomark _)) (pe_lst (pa_cons pe_int pa_nil)) (pe_lc (own := [("_law_piece", 6)]) (g := gName 6) (tt := tYes) (by rfl) scRdg.nd (pi_list (pe_bm PySem.F.plainAttrs_str PySem.F.slot_str_split PySem.F.type_str_split mt_split (pe_ix ix_list (pv 1) pe_int (fun _ _ => rfl)) (pa_cons pe_str pa_nil))) (blkOk_by (N := NRdg) (sc := defScope sReading) (by decide +kernel))
          (fun _ _ _ _ _ => pg_name (i := 6) scRdg.nd rfl (Or.inl rfl)) (fun _ _ _ _ _ => pts_nil)
          (fun _ _ _ _ _ => pe_call G hr rfl D.M D.F.kp D.B .nil pass0 (pa_cons (pv 6) pa_nil)))))
      (pss_cut (ps_if (PW.pt (pw_or (pt_cmpR op_notIn_seq (pe_callB call_len_seq (by rfl) T.len_ PySem.boot_len (pa_cons (pv 4) pa_nil)) (pe_tup (pa_cons pe_int (pa_cons pe_int (pa_cons pe_int (pa_cons pe_int pa_nil))))) rfl) (pw_or1 (PW.pt (pw_and (pt_cmpR op_eq (pe_callB call_len_seq (by rfl) T.len_ PySem.boot_len (pa_cons (pv 1) pa_nil)) pe_int (nomark _)) (pw_and1 (pt_cmpR (op_eqD hr.units) (pv 4) (pe_lst (pa_cons pe_int pa_nil)) (nomark _)))))))) (pss_one (ps_ret pe_non)) pss_nil)
      (pss_cons (ps_set (i := 5) scRdg.nd rfl (Or.inl rfl) (pe_op op_cat (pe_op op_cat (pv 4) (pe_lc (own := [("_law_row", 7)]) (g := gName 7) (tt := tYes) (by rfl) scRdg.nd (pi_list (pv 3)) (blkOk_by (N := NRdg) (sc := defScope sReading) (by decide +kernel))
          (fun _ _ _ _ _ => pg_name (i := 7) scRdg.nd rfl (Or.inl rfl)) (fun _ _ _ _ _ => pts_nil)
          (fun _ _ _ _ _ => pe_ix (ix_tupK (K := K) rfl) (pv 7) pe_int (fun _ _ => rfl)))) (pe_lc (own := [("_law_row", 7)]) (g := gName 7) (tt := tYes) (by rfl) scRdg.nd (pi_list (pv 3)) (blkOk_by (N := NRdg) (sc := defScope sReading) (by decide +kernel))
          (fun _ _ _ _ _ => pg_name (i := 7) scRdg.nd rfl (Or.inl rfl)) (fun _ _ _ _ _ => pts_nil)
          (fun _ _ _ _ _ => pe_ix (ix_tupK (K := K) rfl) (pv 7) pe_int (fun _ _ => rfl)))))
      (pss_cons (ps_if (pt_not (pt_val (pe_callB (cr_all rfl) (by rfl) T.all_ boot_all' (pa_cons (pe_lc (own := [("_law_state", 8)]) (g := gName 8) (tt := tYes) (by rfl) scRdg.nd (pi_list (pv 5)) (blkOk_by (N := NRdg) (sc := defScope sReading) (by decide +kernel))
          (fun _ _ _ _ _ => pg_name (i := 8) scRdg.nd rfl (Or.inl rfl)) (fun _ _ _ _ _ => pts_nil)
          (fun _ _ _ _ _ => pe_chain op_le op_lt pe_int (pv 8) (pe_callB (call_lenK (K := K) rfl) (by rfl) T.len_ PySem.boot_len (pa_cons (pv 3) pa_nil)))) pa_nil)))) (pss_one (ps_ret pe_non)) pss_nil)
      (pss_one (ps_ret (pe_tup (pa_cons (pe_callTy call_tuple_of (by rfl) T.tup_ boot_tuple' (pa_cons (pv 3) pa_nil)) (pa_cons (pe_callTy call_tuple_of (by rfl) T.tup_ boot_tuple' (pa_cons (pv 4) pa_nil)) pa_nil))))))))))))), ?_⟩
    have big : ∀ {n : Nat}, n ≤ 30000 → n ≤ sizeLine := fun h => Nat.le_trans h (by decide)
    have hprt := TS.split_len t " | " (by decide +kernel)
    have hpl : ∀ p ∈ PySem.Txt.split t " | ", p.length ≤ 8000 := fun p hp => Nat.le_trans (TS.part_len hp) hl
    refine ⟨_, rfl, rfl, _, _, rfl, rfl, by decide +kernel, big (by omega), fun PT hPT => ?_⟩
    have sP := new_ (o := .lst ((PySem.Txt.split t " | ").map V.str)) hPT
    have hpt : (upd H PT (.lst ((PySem.Txt.split t " | ").map V.str))) PT = some (.lst ((PySem.Txt.split t " | ").map V.str)) := upd_same
    generalize (upd H PT (.lst ((PySem.Txt.split t " | ").map V.str))) = H1 at sP hpt ⊢
    obtain ⟨p0, rest, hparts⟩ : ∃ p0 rest, PySem.Txt.split t " | " = p0 :: rest := by
      cases e : PySem.Txt.split t " | " with
      | nil => exact absurd e (split_ne t " | " (by decide +kernel))
      | cons a r => exact ⟨a, r, rfl⟩
    rw [hparts] at hpt hprt hpl
    have hp0 := hpl p0 (by simp)
    -- a text of a rule is read
    have bad : (¬ RdOk t p0 rest) → ¬ IsTxt t := by
      rintro no ⟨rows, starts, k, g, e⟩
      have hh := hparts
      rw [e] at hh
      have q := (rd_good g hh).1
      rw [← e] at q
      exact no q
    have hpcl := TS.split_len p0 "; " (by decide +kernel)
    refine ⟨_, rfl, PT, _, 0, .str p0, rfl, rfl, SqL.of hpt, atI_nat (i := 0) rfl, rfl, p0, _, rfl, rfl, by decide +kernel, big (by omega), fun q hq => ⟨q, rfl, ⟨_, SqL.of upd_same⟩, fun WD hWD => ?_⟩⟩
    have sq := new_ (o := .lst ((PySem.Txt.split p0 "; ").map V.str)) hq
    have hqq : (upd H1 q (.lst ((PySem.Txt.split p0 "; ").map V.str))) q = some (.lst ((PySem.Txt.split p0 "; ").map V.str)) := upd_same
    have hpt2 := sq _ _ hpt
    generalize (upd H1 q (.lst ((PySem.Txt.split p0 "; ").map V.str))) = H2 at sq hqq hWD hpt2
    have s02 := sP.trans sq
    have hpcs : ∀ p ∈ PySem.Txt.split p0 "; ", p.length ≤ 8000 := fun p hp => Nat.le_trans (TS.part_len hp) hp0
    have hrows : rdRows p0 = ((PySem.Txt.split p0 "; ").map fun pc => PySem.Txt.split pc " ").map rwOf := by
      rw [List.map_map]
      rfl
    have hokc : (∀ pc ∈ PySem.Txt.split p0 "; ", okW (PySem.Txt.split pc " ") = true) ↔ ∀ ws ∈ (PySem.Txt.split p0 "; ").map (fun pc => PySem.Txt.split pc " "), okW ws = true :=
      ⟨fun h ws hw => by obtain ⟨pc, hpc, rfl⟩ := List.mem_map.mp hw; exact h pc hpc, fun h pc hpc => h _ (List.mem_map.mpr ⟨pc, hpc, rfl⟩)⟩
    refine lc_acc (xs := (PySem.Txt.split p0 "; ").map V.str) (walk_l (K := K) (a := q) (xs := (PySem.Txt.split p0 "; ").map V.str)) (by rw [List.length_map]; exact big (by omega)) hWD (fun H' s' => SqL.of (s' _ _ hqq)) (fun i acc H' => Ea H' (fun H c ws => H c = some (.lst (tx ws)) ∧ c ≠ WD) acc (((PySem.Txt.split p0 "; ").map fun pc => PySem.Txt.split pc " ").take i)) (fun i acc H' e => by rw [e.1, List.length_take, List.length_map]; omega) (by rw [List.take_zero]; exact Ea.nil) (fun i x H' acc Φ Ψ hi hx sm hd he kf => ?_) fun H3 wacc s3 hwd heW => ?_
    · rw [List.getElem?_map, Option.map_eq_some_iff] at hx
      obtain ⟨pc, hpc, rfl⟩ := hx
      have hpcm := hpcs pc (List.mem_of_getElem? hpc)
      refine ⟨rfl, ?_⟩
      dsimp only [tYes]
      rw [if_pos rfl]
      refine ⟨_, rfl, rfl, _, _, rfl, rfl, by decide +kernel, big (by omega), fun u hu => ?_⟩
      have su := new_ (o := .lst ((PySem.Txt.split pc " ").map V.str)) hu
      have nu : u ≠ WD := (ne_of_none hd hu).symm
      refine kf _ _ su (su _ _ hd) fun H5 h5 b1 b2 => ?_
      rw [take_succ' (show ((PySem.Txt.split p0 "; ").map fun pc => PySem.Txt.split pc " ")[i]? = some (PySem.Txt.split pc " ") by rw [List.getElem?_map, hpc]; rfl)]
      exact Ea.push (he.imp fun c r z => ⟨b1 _ _ z.2 (su _ _ z.1), z.2⟩) ⟨b1 _ _ nu upd_same, nu⟩
    rw [List.length_map, List.take_of_length_le (by rw [List.length_map]; exact Nat.le_refl _)] at heW
    have heW : Ea H3 LT wacc ((PySem.Txt.split p0 "; ").map fun pc => PySem.Txt.split pc " ") := heW.imp fun c r z => z.1
    have s03 := s02.trans s3
    have hpt3 := s3 _ _ hpt2
    have hwl : wacc.length = (PySem.Txt.split p0 "; ").length := by rw [heW.1, List.length_map]
    have hrl : (rdRows p0).length = (PySem.Txt.split p0 "; ").length := List.length_map _
    -- at most two parts and 48 rows
    refine ⟨_, rfl, PT, _, rfl, .inl (SqL.of hpt3), _, _, rfl, rfl, _, rfl, ifD_2 (fun hgt => iteT ?_) (fun hgt => ?_)⟩
    · refine kb (bad fun o => ?_) H3 s03
      have := o.two
      simp only [List.map_cons, List.length_cons, List.length_map] at hgt
      omega
    have two : rest.length ≤ 1 := by
      simp only [List.map_cons, List.length_cons, List.length_map] at hgt
      omega
    refine ⟨_, rfl, WD, _, rfl, .inl (SqL.of hwd), _, _, rfl, rfl, _, rfl, ifD_2 (fun hgt2 => ?_) (fun hgt2 => ?_)⟩
    · refine kb (bad fun o => ?_) H3 s03
      have := o.n48
      omega
    have n48 : (PySem.Txt.split p0 "; ").length ≤ 48 := by omega
    generalize (PySem.Txt.split p0 "; ").map (fun pc => PySem.Txt.split pc " ") = wds at heW hrows hokc
    have hwd48 : wacc.length ≤ 48 := by omega
    -- the form of the rows
    refine ⟨_, rfl, WD, rfl, ⟨_, SqL.of hwd⟩, fun Dd hD => ?_⟩
    refine lc_same (xs := wacc) (walk_l (K := K) (a := WD) (xs := wacc)) (big (by omega)) hD (fun H' s' => SqL.of (s' _ _ hwd)) ((wds.map okW).map V.bl) (by rw [List.length_map, List.length_map, ← heW.1]) (fun i x y H' Φ Ψ hx hy sm k => ?_) fun H4 s4 hd4 => ?_
    · rw [List.getElem?_map, Option.map_eq_some_iff] at hy
      obtain ⟨y1, hy, rfl⟩ := hy
      rw [List.getElem?_map, Option.map_eq_some_iff] at hy
      obtain ⟨ws, hws, rfl⟩ := hy
      obtain ⟨c, rfl, hc⟩ := heW.2 i x ws hx hws
      have hc' : H' c = some (.lst (tx ws)) := sm _ _ hc
      refine ⟨rfl, ?_⟩
      dsimp only [tYes]
      rw [if_pos rfl]
      refine ⟨_, rfl, c, _, rfl, .inl (SqL.of hc'), rfl, _, rfl, ?_⟩
      by_cases h4 : ws.length = 4
      rotate_left
      · rw [decide_eq_false (by rw [List.length_map]; intro z; injection z with z; omega)]
        have e : okW ws = false := by
          unfold okW
          split
          · exact absurd rfl h4
          · rfl
        rw [e] at k
        exact iteF (k H' fun _ _ e => e)
      obtain ⟨a, b, c', d, rfl⟩ : ∃ a b c d, ws = [a, b, c, d] := by
        match ws, h4 with
        | [a, b, c, d], _ => exact ⟨a, b, c, d, rfl⟩
      rw [decide_eq_true (show V.int ((tx [a, b, c', d]).length : Nat) = V.int 4 from rfl)]
      have ke : okW [a, b, c', d] = (decide (b ∈ (["fall", "stay"] : List Str)) && decide (d ∈ (["go", "stay"] : List Str))) := rfl
      rw [ke] at k
      refine iteT ⟨_, rfl, c, _, 1, _, rfl, rfl, SqL.of hc', rfl, by show 2 ≤ sizeLine; decide, fun q1 hq1 => ⟨q1, tx ["fall", "stay"], rfl, .inr (SqT.of upd_same), rfl, tx_flat _, _, rfl, ?_⟩⟩
      have s5 := new_ (o := .tup (tx ["fall", "stay"])) hq1
      show ite ((inV (.str b) (tx ["fall", "stay"])) = true) _ _
      rw [inV_tx]
      by_cases hb : b ∈ (["fall", "stay"] : List Str)
      rotate_left
      · rw [decide_eq_false hb] at k ⊢
        exact iteF (k _ s5)
      rw [decide_eq_true hb] at k ⊢
      refine iteT ⟨_, rfl, c, _, 3, _, rfl, rfl, SqL.of (s5 _ _ hc'), rfl, by show 2 ≤ sizeLine; decide, fun q2 hq2 => ⟨q2, tx ["go", "stay"], rfl, .inr (SqT.of upd_same), rfl, tx_flat _, ?_⟩⟩
      have s6 := new_ (o := .tup (tx ["go", "stay"])) hq2
      show Φ (V.bl (inV (.str d) (tx ["go", "stay"]))) _
      rw [inV_tx]
      exact k _ (s5.trans s6)
    refine ⟨Dd, _, rfl, SqL.of hd4, ?_⟩
    have s04 := s03.trans s4
    cases hall : (wds.map okW).all id with
    | false =>
      refine ⟨false, rfl, iteT (kb (bad fun o => ?_) H4 s04)⟩
      have q := hokc.mp o.ok
      have : (wds.map okW).all id = true := by
        rw [List.all_map, List.all_eq_true]
        exact q
      rw [hall] at this
      cases this
    | true =>
    refine ⟨true, rfl, iteF ?_⟩
    have hok : ∀ ws ∈ wds, okW ws = true := by
      rw [List.all_map, List.all_eq_true] at hall
      exact hall
    have hpt4 := s4 _ _ hpt3
    have hwd4 := s4 _ _ hwd
    have heW4 : Ea H4 LT wacc wds := heW.imp fun c r z => s4 _ _ z
    clear heW hwd hpt3 hd4 hpt2 hpt hqq
    -- the rows
    refine ⟨_, rfl, WD, rfl, ⟨_, SqL.of hwd4⟩, fun RD hRD => ?_⟩
    refine lc_acc (xs := wacc) (walk_l (K := K) (a := WD) (xs := wacc)) (big (by omega)) hRD (fun H' s' => SqL.of (s' _ _ hwd4)) (fun i acc H' => Each H' isT acc ((wds.map rwOf).take i)) (fun i acc H' e => by rw [e.1, List.length_take, List.length_map, ← heW4.1]; omega) (by rw [List.take_zero]; exact Each.nil) (fun i x H' acc Φ Ψ hi hx sm hd he kf => ?_) fun H5 racc s5 hrd heR => ?_
    · obtain ⟨c, ws, rfl, hws, hc⟩ := heW4.at_ hx
      have hc' : H' c = some (.lst (tx ws)) := sm _ _ hc
      have okw := hok ws (List.mem_of_getElem? hws)
      obtain ⟨a, b, c', d, rfl⟩ : ∃ a b c d, ws = [a, b, c, d] := by
        match ws, okw with
        | [a, b, c, d], _ => exact ⟨a, b, c, d, rfl⟩
      refine ⟨rfl, ?_⟩
      dsimp only [tYes]
      rw [if_pos rfl]
      refine ⟨_, rfl, c, _, 0, _, rfl, rfl, SqL.of hc', rfl, a, rfl, fun H6 s6 => ?_⟩
      refine ⟨_, rfl, c, _, 1, _, rfl, rfl, SqL.of (s6 _ _ hc'), rfl, rfl, ?_⟩
      refine ⟨_, rfl, c, _, 2, _, rfl, rfl, SqL.of (s6 _ _ hc'), rfl, c', rfl, fun H7 s7 => ?_⟩
      refine ⟨_, rfl, c, _, 3, _, rfl, rfl, SqL.of (s7 _ _ (s6 _ _ hc')), rfl, rfl, by show 4 ≤ sizeLine; decide, fun q hq => ?_⟩
      rw [bl_eqs, bl_eqs]
      have sq := new_ (o := .tup (rv (rwOf [a, b, c', d]))) hq
      have hd' := sq _ _ (s7 _ _ (s6 _ _ hd))
      refine kf _ _ ((s6.trans s7).trans sq) hd' fun H8 h8 b1 b2 => ?_
      rw [take_succ' (show (wds.map rwOf)[i]? = some (rwOf [a, b, c', d]) by rw [List.getElem?_map, hws]; rfl)]
      refine Each.push (he.imp fun c r z => ?_) ?_
      · exact b1 _ _ (ne_of z hd (by intro z; cases z)) (sq _ _ (s7 _ _ (s6 _ _ z)))
      · exact b1 _ _ (ne_of (H := upd H7 q (.tup (rv (rwOf [a, b, c', d])))) upd_same hd' (by intro z; cases z)) upd_same
    rw [heW4.1, List.take_of_length_le (by rw [List.length_map]; exact Nat.le_refl _), ← hrows] at heR
    have s05 := s04.trans s5
    have hpt5 := s5 _ _ hpt4
    have hrl5 : racc.length = (rdRows p0).length := heR.1
    clear heW4 hwd4 hpt4
    -- the starts
    refine ⟨fun σ' H' => ∃ SD, σ' = [some (.str t), some (.ref PT), some (.ref WD), some (.ref RD), some (.ref SD), none, none, none, none] ∧ Same H5 H' ∧ H' SD = some (.lst ((rdStarts rest).map V.int)), ?_, ?_⟩
    · refine ⟨_, rfl, PT, _, rfl, .inl (SqL.of hpt5), rfl, _, rfl, ?_⟩
      match rest, two with
      | [], _ => exact iteT ⟨by show 1 ≤ sizeLine; decide, fun q hq => ⟨q, rfl, new_ hq, upd_same⟩⟩
      | [p1], _ =>
        have hp1 := hpl p1 (by simp)
        have hwl1 := TS.split_len p1 " " (by decide +kernel)
        refine iteF ⟨_, rfl, PT, _, 1, .str p1, rfl, rfl, SqL.of hpt5, rfl, rfl, p1, _, rfl, rfl, by decide +kernel, big (by omega), fun q hq => ⟨q, rfl, ⟨_, SqL.of upd_same⟩, fun Dd hD => ?_⟩⟩
        have sq := new_ (o := .lst ((PySem.Txt.split p1 " ").map V.str)) hq
        have hqq : (upd H5 q (.lst ((PySem.Txt.split p1 " ").map V.str))) q = some (.lst ((PySem.Txt.split p1 " ").map V.str)) := upd_same
        generalize (upd H5 q (.lst ((PySem.Txt.split p1 " ").map V.str))) = H6 at sq hqq hD ⊢
        refine lc_same (xs := (PySem.Txt.split p1 " ").map V.str) (walk_l (K := K) (a := q) (xs := (PySem.Txt.split p1 " ").map V.str)) (by rw [List.length_map]; exact big (by omega)) hD (fun H' s' => SqL.of (s' _ _ hqq)) (((PySem.Txt.split p1 " ").map numL).map V.int) (by simp) (fun i x y H' Φ Ψ hx hy sm kf => ?_) fun H7 s7 hd7 => ⟨Dd, rfl, sq.trans s7, hd7⟩
        rw [List.getElem?_map, Option.map_eq_some_iff] at hx
        obtain ⟨z, hz1, rfl⟩ := hx
        rw [List.getElem?_map, List.getElem?_map, hz1] at hy
        cases hy
        refine ⟨rfl, ?_⟩
        dsimp only [tYes]
        rw [if_pos rfl]
        exact ⟨_, rfl, z, rfl, fun H8 s8 => kf H8 s8⟩
      | _ :: _ :: _, z => exact absurd z (by simp)
    rintro _ H6 ⟨SD, rfl, s56, hsd⟩
    have s06 := s05.trans s56
    have hpt6 := s56 _ _ hpt5
    have hrd6 := s56 _ _ hrd
    have heR6 : Each H6 isT racc (rdRows p0) := heR.imp fun c r z => s56 _ _ z
    have sl9 : (rdStarts rest).length ≤ 9000 := by
      match rest, two, hpl with
      | [], _, _ => decide
      | [p1], _, hpl =>
        have := hpl p1 (by simp)
        have := TS.split_len p1 " " (by decide +kernel)
        show ((PySem.Txt.split p1 " ").map numL).length ≤ 9000
        rw [List.length_map]
        omega
      | _ :: _ :: _, z, _ => exact absurd z (by simp)
    -- how many starts
    refine ⟨fun σ' H' => σ' = [some (.str t), some (.ref PT), some (.ref WD), some (.ref RD), some (.ref SD), none, none, none, none] ∧ Same H6 H' ∧ TR.isRtN (rdStarts rest).length = true ∧ (rest.length = 1 → rdStarts rest ≠ [0]), ?_, ?_⟩
    · refine ⟨_, rfl, SD, _, rfl, .inl (SqL.of hsd), by show 4 ≤ sizeLine; decide, fun q4 hq4 => ⟨q4, [.int 1, .int 4, .int 9, .int 16], rfl, .inr (SqT.of upd_same), rfl, rfl, _, rfl, ?_⟩⟩
      have s67 := new_ (o := .tup [V.int 1, V.int 4, V.int 9, V.int 16]) hq4
      have ert : inV (.int (((rdStarts rest).map V.int).length : Nat)) [.int 1, .int 4, .int 9, .int 16] = TR.isRtN (rdStarts rest).length := by
        rw [List.length_map]
        generalize (rdStarts rest).length = m
        unfold TR.isRtN inV
        rw [Bool.eq_iff_iff]
        simp only [List.any_cons, List.any_nil, Bool.or_false, Bool.or_eq_true, decide_eq_true_eq]
        have e : ∀ a : Nat, (eqV (.int (a : Int)) (.int (m : Int)) = true) ↔ m = a := fun a => by
          show (((a : Int) == (m : Int)) = true) ↔ _
          rw [beq_iff_eq]
          omega
        have e1 := e 1
        have e4 := e 4
        have e9 := e 9
        have e16 := e 16
        constructor
        · rintro (h | h | h | h)
          · exact .inl (.inl (.inl (e1.mp h)))
          · exact .inl (.inl (.inr (e4.mp h)))
          · exact .inl (.inr (e9.mp h))
          · exact .inr (e16.mp h)
        · rintro (((h | h) | h) | h)
          · exact .inl (e1.mpr h)
          · exact .inr (.inl (e4.mpr h))
          · exact .inr (.inr (.inl (e9.mpr h)))
          · exact .inr (.inr (.inr (e16.mpr h)))
      show ite ((!inV (.int (((rdStarts rest).map V.int).length : Nat)) [.int 1, .int 4, .int 9, .int 16]) = true) _ _
      rw [ert]
      cases hrt : TR.isRtN (rdStarts rest).length with
      | false =>
        refine iteT (kb (bad fun o => ?_) _ (s06.trans s67))
        have := o.rt
        rw [hrt] at this
        cases this
      | true =>
      have hpt7 := s67 _ _ hpt6
      have hsd7 := s67 _ _ hsd
      have s07 := s06.trans s67
      generalize (upd H6 q4 (.tup [V.int 1, V.int 4, V.int 9, V.int 16])) = H7 at s67 hpt7 hsd7 s07 ⊢
      refine iteF ⟨_, rfl, PT, _, rfl, .inl (SqL.of hpt7), rfl, _, rfl, ?_⟩
      by_cases h1 : rest.length = 1
      · rw [decide_eq_true (show V.int (((p0 :: rest).map V.str).length : Nat) = V.int 2 by rw [List.length_map, List.length_cons, h1]; rfl)]
        refine iteT ⟨_, rfl, by show 1 ≤ sizeLine; decide, fun q hq => ?_⟩
        have sq := new_ (o := .lst [V.int 0]) hq
        refine ⟨.list ((rdStarts rest).map PyData.int), .list [.int 0], .lst (SqL.of (sq _ _ hsd7)) (dp_ints _), .lst (SqL.of upd_same) (.cons (.int 0) .nil), ints_shaped _, ints_shaped [0], _, rfl, ?_⟩
        rw [intsL_zero]
        refine ifD_2 (fun hz => ?_) (fun hz => ?_)
        · exact kb (bad fun o => o.ne h1 hz) _ (s07.trans sq)
        · exact ⟨rfl, s67.trans sq, rfl, fun _ => hz⟩
      · rw [decide_eq_false (show ¬ V.int (((p0 :: rest).map V.str).length : Nat) = V.int 2 by
          rw [List.length_map, List.length_cons]
          intro z
          injection z with z
          omega)]
        exact iteF (iteF ⟨rfl, s67, rfl, fun z => absurd z h1⟩)
    rintro _ H7 ⟨rfl, s67, hrt, hne⟩
    have hpt7 := s67 _ _ hpt6
    have hrd7 := s67 _ _ hrd6
    have hsd7 := s67 _ _ hsd
    have heR7 : Each H7 isT racc (rdRows p0) := heR6.imp fun c r z => s67 _ _ z
    have s07 := s06.trans s67
    clear heR6 hsd hrd6 hpt6 heR hrd hpt5
    -- all states
    refine ⟨_, rfl, _, rfl, RD, rfl, ⟨_, SqL.of hrd7⟩, fun Da hDa => ?_⟩
    refine lc_same (xs := racc) (walk_l (K := K) (a := RD) (xs := racc)) (big (by omega)) hDa (fun H' s' => SqL.of (s' _ _ hrd7)) (((rdRows p0).map (·.1)).map V.int) (by rw [List.length_map, List.length_map, hrl5]) (fun i x y H' Φ Ψ hx hy sm k => ?_) fun H8 s8 hda => ?_
    · rw [List.getElem?_map, List.getElem?_map, Option.map_eq_some_iff] at hy
      obtain ⟨y1, hy, rfl⟩ := hy
      rw [Option.map_eq_some_iff] at hy
      obtain ⟨r, hr', rfl⟩ := hy
      obtain ⟨c, rfl, hc⟩ := heR7.2 i x r hx hr'
      refine ⟨rfl, ?_⟩
      dsimp only [tYes]
      rw [if_pos rfl]
      exact ⟨_, rfl, c, _, 0, _, rfl, rfl, SqT.of (sm _ _ hc), rfl, k H' fun _ _ e => e⟩
    refine ⟨SD, Da, _, _, rfl, rfl, s8 _ _ hsd7, hda, by rw [List.length_map, List.length_map, List.length_map]; exact big (by omega), fun q1 hq1 => ?_⟩
    have s9 := new_ (o := .lst ((rdStarts rest).map V.int ++ ((rdRows p0).map (·.1)).map V.int)) hq1
    have hq1' : (upd H8 q1 (.lst ((rdStarts rest).map V.int ++ ((rdRows p0).map (·.1)).map V.int))) q1 = some (.lst ((rdStarts rest).map V.int ++ ((rdRows p0).map (·.1)).map V.int)) := upd_same
    generalize (upd H8 q1 (.lst ((rdStarts rest).map V.int ++ ((rdRows p0).map (·.1)).map V.int))) = H9 at s9 hq1' ⊢
    have s79 := s8.trans s9
    have hrd9 := s79 _ _ hrd7
    have heR9 : Each H9 isT racc (rdRows p0) := heR7.imp fun c r z => s79 _ _ z
    refine ⟨_, rfl, RD, rfl, ⟨_, SqL.of hrd9⟩, fun Db hDb => ?_⟩
    refine lc_same (xs := racc) (walk_l (K := K) (a := RD) (xs := racc)) (big (by omega)) hDb (fun H' s' => SqL.of (s' _ _ hrd9)) (((rdRows p0).map (·.2.2.1)).map V.int) (by rw [List.length_map, List.length_map, hrl5]) (fun i x y H' Φ Ψ hx hy sm k => ?_) fun H10 s10 hdb => ?_
    · rw [List.getElem?_map, List.getElem?_map, Option.map_eq_some_iff] at hy
      obtain ⟨y1, hy, rfl⟩ := hy
      rw [Option.map_eq_some_iff] at hy
      obtain ⟨r, hr', rfl⟩ := hy
      obtain ⟨c, rfl, hc⟩ := heR9.2 i x r hx hr'
      refine ⟨rfl, ?_⟩
      dsimp only [tYes]
      rw [if_pos rfl]
      exact ⟨_, rfl, c, _, 2, _, rfl, rfl, SqT.of (sm _ _ hc), rfl, k H' fun _ _ e => e⟩
    refine ⟨q1, Db, _, _, rfl, rfl, s10 _ _ hq1', hdb, by rw [List.length_append, List.length_map, List.length_map, List.length_map, List.length_map, List.length_map]; exact big (by omega), fun q2 hq2 => ?_⟩
    have eall : (rdStarts rest).map V.int ++ ((rdRows p0).map (·.1)).map V.int ++ ((rdRows p0).map (·.2.2.1)).map V.int = (rdStarts rest ++ (rdRows p0).map (·.1) ++ (rdRows p0).map (·.2.2.1)).map V.int := by
      rw [List.map_append, List.map_append]
    rw [eall]
    have hall9 : (rdStarts rest ++ (rdRows p0).map (·.1) ++ (rdRows p0).map (·.2.2.1)).length ≤ 10000 := by
      rw [List.length_append, List.length_append, List.length_map, List.length_map]
      omega
    generalize hzs : rdStarts rest ++ (rdRows p0).map (·.1) ++ (rdRows p0).map (·.2.2.1) = zs at hall9 ⊢
    have s11 := new_ (o := .lst (zs.map V.int)) hq2
    have hq2' : (upd H10 q2 (.lst (zs.map V.int))) q2 = some (.lst (zs.map V.int)) := upd_same
    generalize (upd H10 q2 (.lst (zs.map V.int))) = H11 at s11 hq2' ⊢
    have s7b := (s79.trans s10).trans s11
    have hrdb := s7b _ _ hrd7
    have hsdb := s7b _ _ hsd7
    have heRb : Each H11 isT racc (rdRows p0) := heR7.imp fun c r z => s7b _ _ z
    refine ⟨_, rfl, q2, rfl, ⟨_, SqL.of hq2'⟩, fun Dc hDc => ?_⟩
    refine lc_same (xs := zs.map V.int) (walk_l (K := K) (a := q2) (xs := zs.map V.int)) (by rw [List.length_map]; exact big (by omega)) hDc (fun H' s' => SqL.of (s' _ _ hq2')) ((zs.map fun z => decide (0 ≤ z) && decide (z < ((rdRows p0).length : Int))).map V.bl) (by simp) (fun i x y H' Φ Ψ hx hy sm k => ?_) fun H12 s12 hd12 => ?_
    · rw [List.getElem?_map, Option.map_eq_some_iff] at hx
      obtain ⟨z, hz, rfl⟩ := hx
      rw [List.getElem?_map, List.getElem?_map, hz] at hy
      cases hy
      have k : Φ (V.bl (decide (0 ≤ z) && decide (z < ((rdRows p0).length : Int)))) H' := k H' fun _ _ e => e
      refine ⟨rfl, ?_⟩
      dsimp only [tYes]
      rw [if_pos rfl]
      refine ⟨_, rfl, _, _, rfl, rfl, _, rfl, ?_⟩
      by_cases h0 : 0 ≤ z
      · rw [decide_eq_true h0] at k ⊢
        rw [Bool.true_and] at k
        refine iteT ⟨_, rfl, RD, _, rfl, .inl (SqL.of (sm _ _ hrdb)), _, _, rfl, rfl, ?_⟩
        rw [hrl5]
        exact k
      · rw [decide_eq_false h0] at k ⊢
        exact iteF k
    refine ⟨Dc, _, rfl, SqL.of hd12, ?_⟩
    have s0c := (s07.trans s7b).trans s12
    cases hfin : (zs.map fun z => decide (0 ≤ z) && decide (z < ((rdRows p0).length : Int))).all id with
    | false =>
      refine ⟨false, rfl, iteT (kb (bad fun o => ?_) H12 s0c)⟩
      have : (zs.map fun z => decide (0 ≤ z) && decide (z < ((rdRows p0).length : Int))).all id = true := by
        rw [List.all_map, List.all_eq_true]
        intro z hz
        rw [← hzs] at hz
        have q := o.st z hz
        show (decide (0 ≤ z) && decide (z < ((rdRows p0).length : Int))) = true
        rw [decide_eq_true q.1, decide_eq_true q.2]
        rfl
      rw [hfin] at this
      cases this
    | true =>
    have ro : RdOk t p0 rest := ⟨two, n48, hokc.mpr hok, hrt, hne, fun z hz => by
      rw [hzs] at hz
      rw [List.all_map, List.all_eq_true] at hfin
      have q : (decide (0 ≤ z) && decide (z < ((rdRows p0).length : Int))) = true := hfin z hz
      rw [Bool.and_eq_true, decide_eq_true_eq, decide_eq_true_eq] at q
      exact q⟩
    obtain ⟨k, g, et⟩ := rd_back hparts ro
    refine ⟨true, rfl, iteF ?_⟩
    have hrdc := s12 _ _ hrdb
    have hsdc := s12 _ _ hsdb
    refine ⟨_, rfl, RD, _, rfl, .inl ⟨SqL.of hrdc, fun R hR => ?_⟩⟩
    have s13 := new_ (o := .tup racc) hR
    refine ⟨_, rfl, SD, _, rfl, .inl ⟨SqL.of (s13 _ _ hsdc), fun S hS => ?_⟩⟩
    have s14 := new_ (o := .tup ((rdStarts rest).map V.int)) hS
    refine ⟨by show 2 ≤ sizeLine; decide, fun p hp => ?_⟩
    have s15 := new_ (o := .tup [V.ref R, V.ref S]) hp
    exact kg (rdRows p0) (rdStarts rest) k g et p R S racc _ (((s0c.trans s13).trans s14).trans s15) upd_same (s15 _ _ (s14 _ _ upd_same)) (heRb.imp fun c r z => s15 _ _ (s14 _ _ (s13 _ _ (s12 _ _ z)))) (s15 _ _ upd_same)
end
end PA

set_option maxHeartbeats 4000000
/-! a text picked out of a written list, its token known; replace by it -/
namespace PA
open PySem PySem.Spec PyProof.Rows L2 CwR RZ
theorem ns_slots {h h' : Heap} {L : Addr} {m : Str → Option Value} (hn : h.Ns L m) (k : ∀ o, h.get? L = some o → ∃ sl, h'.get? L = some { o with slots := sl }) : h'.Ns L m := by
  obtain ⟨o, es, ep, ho, hd, r⟩ := hn
  obtain ⟨sl, e⟩ := k o ho
  exact ⟨_, es, ep, e, hd, r⟩
/-- a local name holds a value that is known -/
theorem inv_local {X : Cx} {pins : List (Addr × Obj)} {σ : L2.St} {H : Hp} {s : Shared} {i : Nat} {x : Str} {v : V} {u : Value} {h' : Heap} {m : Str → Option Value} {t' : Nat} (I : Inv X pins σ H s) (hN : X.N.Nodup) (hi : X.N[i]? = some x) (hk : X.env.scope.names.lookup x = some .local) (r : RelV v u)
    (hl : ∀ (i : Nat) (x : Str) (v : V), X.N[i]? = some x → σ[i]? = some (some v) → Vis X.env.scope x → ∃ u, RelV v u ∧ Look X.env s.heap m x u) (hoL : ∃ o, s.heap.get? X.env.locals = some o)
    (hn' : h'.Ns X.env.locals (fun y => if y = x then some u else m y)) (hs : Heap.SameBut X.env.locals s.heap h') : Inv X pins (σ.set i (some v)) H { s with heap := h', toks := t' } := by
  have hiσ : i < σ.length := by rw [I.len]; exact (List.getElem?_eq_some_iff.mp hi).1
  have low : ∀ {b : Addr} {o : Obj}, X.s_0.heap.get? b = some o → h'.get? b = s.heap.get? b := fun {b o} e => hs.2 b (Nat.ne_of_lt (Nat.lt_of_lt_of_le (Heap.lt_size e) I.ok.above))
  have track : HOk X.prog X.w H h' := fun b ob e => by
    refine (I.hok b ob e).stay (fun c w' hc q => (hs.2 c ?_).trans q) (fun _ q => q) fun _ _ q => q
    rintro rfl
    rcases hc with rfl | hc
    · rw [I.free] at e; cases e
    · rw [I.free] at hc; cases hc
  refine ⟨I.ok, I.os, I.bare, ⟨fun b o e n hb hx => (low e).trans (I.base.keep b o e n hb hx), fun b o e n hb hx => ?_, I.base.free, fun b o e hx => ?_, I.base.tups, I.base.frzs, I.base.tbls⟩, ⟨_, hn', fun j y v' e1 e2 e3 => ?_⟩, fun y c e => ?_, I.free, I.freeC, fun p hp => ?_, track, by simpa using I.len⟩
  · obtain ⟨sl, e1⟩ := I.base.slot b o e n hb hx
    exact ⟨sl, (low e).trans e1⟩
  · obtain ⟨o', e1⟩ := I.base.there b o e hx
    exact ⟨o', (low e).trans e1⟩
  · by_cases hj : j = i
    · subst hj
      have ey : y = x := Option.some.inj (e1.symm.trans hi)
      rw [List.getElem?_set_self hiσ] at e2
      have ev : v = v' := Option.some.inj (Option.some.inj e2)
      rw [← ev, ey]
      exact ⟨u, r, .inl ⟨hk, if_pos rfl⟩⟩
    · rw [List.getElem?_set_ne (Ne.symm hj)] at e2
      obtain ⟨u', r', q⟩ := hl j y v' e1 e2 e3
      refine ⟨u', r', ?_⟩
      rcases q with ⟨k, e⟩ | ⟨k, c, e, z⟩
      · exact .inl ⟨k, (if_neg fun (ee : y = x) => hj (nodup_ix hN e1 (ee ▸ hi))).trans e⟩
      · exact .inr ⟨k, c, e, z.sameBut hs (I.cne y c e)⟩
  · obtain ⟨w', z⟩ := I.cell y c e
    exact ⟨w', z.sameBut hs (I.cne y c e)⟩
  · obtain ⟨e, n, ne, nf, d⟩ := I.pin p hp
    exact ⟨(hs.2 p.1 ne).trans e, n, ne, nf, d⟩
section
variable {X : Cx} {C : Addr}
theorem pss_or {ss : List Stmt} {t1 t2 : TS} (h1 : PSs X ss t1) (h2 : PSs X ss t2) : PSs X ss (fun D σ H => t1 D σ H ∨ t2 D σ H) := ⟨fun pins s σ H D I h => h.elim (fun h => h1.run pins s σ H D I h) fun h => h2.run pins s σ H D I h⟩
/-- if e op (a written int): .. with the rest: behind it a token is out -/
theorem pss_ifN {e : Expr} {te : TE} {r : R2} {op : CmpOp} {k : Int} {j : Nat} {cp p pos : Pos} {body rest : List Stmt} {t u : TS} (he : PE X e te) (ho : OpR X (compareOp op) r) (ha : PSs X body t) (hb : PSsT X rest u) (hm : behindInMarks op (.Constant (.int k) j cp) = false) :
    PSs X (.If (.Compare e [op] [.Constant (.int k) j cp] p) body [] pos :: rest) (tSeq (tIfS (tTest (tOp r te (tC (.int k)))) t tNext) u) := by
  refine ⟨fun pins s σ H D I h => ?_⟩
  refine wpAny_execs_cons (wpAny_If (wpAny_isTrue_Compare1 (thn (he.run pins s σ H _ I h) fun v s1 ⟨y, H1, I1, r1, q1⟩ => ?_) hm))
  refine wpAny_Constant_int ?_
  refine wpAny_mono (PySem.wpAny_toks (ho pins _ σ H1 y (.int k) v (.int k s1.toks) _ (I1.tok (s1.toks + 1)) r1 ⟨_, rfl⟩ q1)) (fun v3 s3 q3 => ?_) fun _ _ z => z.2
  obtain ⟨hk3, y3, H3, I3, r3, b, e3, q3⟩ := q3
  have hk3 : s1.toks + 1 ≤ s3.toks := hk3
  subst e3
  cases r3
  refine wpAny_truthy_bool ?_
  cases b with
  | true =>
    refine wpAny_mono (PySem.wpAny_toks (ha.run pins s3 σ H3 { D with nx := u D } I3 q3)) (fun f s4 q4 => ?_) fun _ _ z => z.2
    obtain ⟨hk4, q4⟩ := q4
    cases f with
    | next =>
      obtain ⟨σ', H', I', q⟩ := q4
      exact hb pins s4 σ' H' D (by omega) I' q
    | ret v => exact q4
    | brk => exact q4
    | cont => exact q4
  | false => exact wpAny_execs_nil (hb pins s3 σ H3 D (by omega) I3 q3)
/-- such an if, seen raw -/
theorem raw_if {i : Nat} {x : Str} {kd k : Int} {j : Nat} {p1 cp p pos : Pos} {body rest : List Stmt} {pins : List (Addr × Obj)} {s : Shared} {σ : L2.St} {H : Hp} {Q : Flow → Shared → Prop} (hN : X.N[i]? = some x) (hv : Vis X.env.scope x) (I : Inv X pins σ H s) (hσ : σ[i]? = some (some (.int kd)))
    (hd : (x == ("__debug__" : Str)) = false) (hcd : (x == ("__classdict__" : Str)) = false) (h1 : kd ≠ k → ∀ tk, s.toks ≤ tk → wpAny (model X.prog X.w) X.A (execs rest X.env) Q X.xe { s with toks := tk })
    (h2 : kd = k → ∀ tk, s.toks ≤ tk → wpAny (model X.prog X.w) X.A (execs body X.env) (fun f s' => match f with | .next => wpAny (model X.prog X.w) X.A (execs rest X.env) Q X.xe s' | f => Q f s') X.xe { s with toks := tk }) :
    wpAny (model X.prog X.w) X.A (execs (.If (.Compare (.Name x p1) [.Eq] [.Constant (.int k) j cp] p) body [] pos :: rest) X.env) Q X.xe s := by
  refine wpAny_execs_cons (wpAny_If (wpAny_isTrue_Compare1 (raw_name hN hv I hσ (fun u r => ?_) hd hcd) (nomark _)))
  obtain ⟨t, rfl⟩ := r
  refine wpAny_Constant_int (PySem.P.eq_int (wpAny_truthy_bool ?_))
  by_cases e : kd = k
  · rw [show (kd == k) = true by rw [e]; simp]
    exact h2 e _ (Nat.le_succ _)
  · rw [show (kd == k) = false by simp [e]]
    exact wpAny_execs_nil (h1 e _ (Nat.le_succ _))
theorem pick_core {f g : Addr} {fd gd : FuncData} (T : Txt X.K X.mg C) (D1 : Df X.K X.mg "_law_draw" sDraw g gd ["_law_stream", "_law_many"]) (D2 : Df X.K X.mg "_law_pick" sPick f fd ["_law_stream", "_law_some"]) (hr : Room 2 X.A) {cs : List Str} (h1 : 1 ≤ cs.length) (h48 : cs.length ≤ 48)
    {pins : List (Addr × Obj)} {s : Shared} {σ : L2.St} {H : Hp} {a l q : Addr} {n : Nat} {us its : List Value} (I : Inv X pins σ H s) (rv : Vals [.ref a, .ref q] us) (S0 : StreamAt H a l n) (hn : n ≤ 20000) (hq : H q = some (fzl q its)) (qa : q ≠ a) (ql : q ≠ l) (nz : Nz cs its) :
    wpAny (model X.prog X.w) X.A (call (.ref f) us) (fun u s' => ∃ z t H', u = Value.str z t ∧ t ≠ 0 ∧ z ∈ cs ∧ Inv X pins σ H' s' ∧ StreamAt H' a l (n + 1) ∧ Keep a l H H' ∧ ∀ m, s.heap.Ns X.env.locals m → s'.heap.Ns X.env.locals m) X.xe s := by
  have G : FnOk X.prog X.w X.K X.mg X.base CX0 1 g gd ["_law_stream", "_law_many"] spDraw := ok_draw D1.F T
  have hB := D2.B s us I.kIn (by rw [List.append_nil, ← rv.length]; rfl)
  obtain ⟨oc, od, kV, doc, pm, an, cdv, ct, osl, efd, lk, hcd⟩ := D2.F.ex
  subst efd
  have hlen : its.length = cs.length := nz.1
  refine wpAny_call (codeAny_mono (fn_ofU (CX := CX0) (ps := ["_law_stream", "_law_some"]) (N := ["_law_stream", "_law_some"]) (us := us) (vs := [.ref a, .ref q]) (Q := fun v H' => (∃ z, z ∈ cs ∧ v = V.str z) ∧ StreamAt H' a l (n + 1) ∧ Keep a l H H') (E := E0) (UE := fun u => u ∈ its) (k := 1) (outer := X.stack) (H := H) lk hcd scPick rfl hr I.env0 (by simpa using hB) rv fun hr1 s2 I2 => ?_) fun r s' hq' => ?_)
  · refine ret_item (X := cxOf CX0 X.prog X.w X.K X.mg X.base ["_law_stream", "_law_some"] "_law_pick" (defScope sPick) f cdv X.A X.stack s H E0) (i := 1) (cs := cs) (its := its) (q := q) (Q := fun H' => StreamAt H' a l (n + 1) ∧ Keep a l H H') (pv 1) (pe_call G hr1 rfl D1.M D1.F.kp D1.B .nil pass0 (pa_cons (pv 0) (pa_cons (pe_callB call_lenF (by rfl) T.len_ PySem.boot_len (pa_cons (pv 1) pa_nil)) pa_nil))) (fun _ _ => rfl) I2 rfl nz (by omega) ?_
    refine ⟨_, rfl, _, rfl, q, its, rfl, hq, by omega, a, l, n, _, rfl, S0, by omega, by omega, sm48 (by omega) (by omega), fun r H' r0 r1 S2 k2 => ?_⟩
    exact ⟨r.toNat, by rw [Int.toNat_of_nonneg r0], by omega, k2 _ _ qa ql hq, S2, k2⟩
  · cases r with
    | error e => exact False.elim hq'
    | ok fl =>
      cases fl with
      | next => exact False.elim hq'
      | brk => exact False.elim hq'
      | cont => exact False.elim hq'
      | ret u =>
        obtain ⟨hu, ce⟩ := hq'
        obtain ⟨_, _, _, _, un, _⟩ := id ce
        obtain ⟨v, H', I', rv', ⟨z0, hz0, _⟩, S', k'⟩ := I.after ce
        obtain ⟨i, hi⟩ := List.mem_iff_getElem?.mp hu
        obtain ⟨z, t, e1, e2, e3⟩ := nz.2 i u hi
        exact ⟨z, t, H', e1, e2, List.mem_of_getElem? e3, I', S', k', fun m hm => ns_slots hm fun o e => un.any e I.free (by simp)⟩
/-- a text picked out of a written list -/
theorem pick_c {f g : Addr} {fd gd : FuncData} (T : Txt X.K X.mg C) (D1 : Df X.K X.mg "_law_draw" sDraw g gd ["_law_stream", "_law_many"]) (D2 : Df X.K X.mg "_law_pick" sPick f fd ["_law_stream", "_law_some"]) (hr : Room 2 X.A) (hg : Gl X "_law_pick") (hN : X.N[0]? = some ("_law_stream" : Str))
    (hv : Vis X.env.scope ("_law_stream" : Str)) {es : List Expr} {cs : List Str} (hc : CEs es cs) (h1 : 1 ≤ cs.length) (h48 : cs.length ≤ 48) {pins : List (Addr × Obj)} {s : Shared} {σ : L2.St} {H : Hp} {a l : Addr} {n : Nat} (h0 : 1 ≤ s.toks) (I : Inv X pins σ H s) (hσ : σ[0]? = some (some (.ref a))) (S0 : StreamAt H a l n) (hn : n ≤ 20000) {p1 p2 p3 p4 : Pos} :
    wpAny (model X.prog X.w) X.A (eval (.Call (.Name "_law_pick" p1) [.Name "_law_stream" p2, .List es p3] [] p4) X.env) (fun u s' => s.toks ≤ s'.toks ∧ ∃ z t H', u = Value.str z t ∧ t ≠ 0 ∧ z ∈ cs ∧ Inv X pins σ H' s' ∧ StreamAt H' a l (n + 1) ∧ Keep a l H H' ∧ ∀ m, s.heap.Ns X.env.locals m → s'.heap.Ns X.env.locals m) X.xe s := by
  refine wpAny_mono (PySem.wpAny_toks (wpAny_Call_Name_kw (ld_glob I hg D2.M ?_ (by decide)))) (fun _ _ z => z) fun _ _ z => z.2
  refine PySem.W.callWith_K (h₀ := X.base) I.ok.mod.kin D2.F.kp ?_ rfl rfl
  show wpAny _ _ (spliced ((false, eval (.Name "_law_stream" p2) X.env) :: backTo p4 (starEach [.List es p3] X.env))) _ _ s
  refine Calls.spliced_cons (raw_name hN hv I hσ (fun v r => ?_))
  obtain rfl : v = Value.ref a := r
  show wpAny _ _ (spliced ((false, eval (.List es p3) X.env) :: backTo p4 (starEach [] X.env))) _ _ s
  refine Calls.spliced_cons (wpAny_List_spliced (consts_run hc h0 fun us k hk nz => ⟨by rw [nz.1]; exact Nat.le_trans h48 (by decide), ?_⟩))
  refine Calls.spliced_nil ?_
  have hf : H s.heap.objs.size = none := I.hok.fresh (Nat.le_refl _)
  have I1 : Inv X pins σ (upd H s.heap.objs.size (fzl s.heap.objs.size us)) { { s with toks := k } with heap := s.heap.push { cls := .type "list", data := .seq us.toArray } } := (I.tok k).laid (t' := k) (fun b u e => Heap.get?_push_of_some _ e) (Nat.le_refl _) (fzl_ok (c := 0) (Heap.get?_push_size _ rfl))
  obtain ⟨qa, ql⟩ := S0.ne hf
  refine ⟨I1.kIn, ?_⟩
  refine thn (pick_core T D1 D2 hr h1 h48 I1 (.cons rfl (.cons rfl .nil)) (S0.same (new_ hf)) hn upd_same qa ql nz) fun u s' hh => ?_
  obtain ⟨z, t, H', e1, e2, e3, I', S', k', ns⟩ := hh
  exact ⟨z, t, H', e1, e2, e3, I', S', (Keep.of (new_ hf)).trans k', fun m hm => ns m (ns_slots hm fun o e => ⟨o.slots, Heap.get?_push_of_some _ e⟩)⟩
/-- a sign picked out of list("..") + [..] -/
theorem pick_s {f g : Addr} {fd gd : FuncData} (T : Txt X.K X.mg C) (D1 : Df X.K X.mg "_law_draw" sDraw g gd ["_law_stream", "_law_many"]) (D2 : Df X.K X.mg "_law_pick" sPick f fd ["_law_stream", "_law_some"]) (hr : Room 2 X.A) (hg : Gl X "_law_pick") (hN : X.N[0]? = some ("_law_stream" : Str))
    (hv : Vis X.env.scope ("_law_stream" : Str)) {le : Expr} {cs : List Str} (he : PE X le (tFw cs)) (h1 : 1 ≤ cs.length) (h48 : cs.length ≤ 48) {pins : List (Addr × Obj)} {s : Shared} {σ : L2.St} {H : Hp} {a l : Addr} {n : Nat} (I : Inv X pins σ H s) (hσ : σ[0]? = some (some (.ref a))) (S0 : StreamAt H a l n) (hn : n ≤ 20000) {p1 p2 p4 : Pos}
    (hst : starEach [.Name "_law_stream" p2, le] X.env = [(false, eval (.Name "_law_stream" p2) X.env), (false, eval le X.env)] := by rfl) :
    wpAny (model X.prog X.w) X.A (eval (.Call (.Name "_law_pick" p1) [.Name "_law_stream" p2, le] [] p4) X.env) (fun u s' => ∃ z t H', u = Value.str z t ∧ t ≠ 0 ∧ z ∈ cs ∧ Inv X pins σ H' s' ∧ StreamAt H' a l (n + 1) ∧ Keep a l H H') X.xe s := by
  have hst2 : starEach [le] X.env = [(false, eval le X.env)] := (List.cons.inj hst).2
  refine wpAny_Call_Name_kw (ld_glob I hg D2.M ?_ (by decide))
  refine PySem.W.callWith_K (h₀ := X.base) I.ok.mod.kin D2.F.kp (thn ((pa_cons (pe_var hN hv) (pa_cons he pa_nil hst2)).run p4 pins s σ H (fun xs H1 => ∃ (q : Addr) (its : List Value), xs = [.ref a, .ref q] ∧ Same H H1 ∧ H q = none ∧ H1 q = some (fzl q its) ∧ Nz cs its) I ⟨_, hσ, fun q its H' sm hq hq' n => ⟨q, its, rfl, sm, hq, hq', n⟩⟩) fun us s1 hh => ?_) (by rfl) (by rw [hst2]; rfl)
  obtain ⟨xs, H1, I1, rv, q, its, rfl, sm, hq, hq', nz⟩ := hh
  refine ⟨I1.kIn, ?_⟩
  obtain ⟨qa, ql⟩ := S0.ne hq
  refine thn (pick_core T D1 D2 hr h1 h48 I1 rv (S0.same sm) hn hq' qa ql nz) fun u s' hh => ?_
  obtain ⟨z, t, H', e1, e2, e3, I', S', k', _⟩ := hh
  exact ⟨z, t, H', e1, e2, e3, I', S', (Keep.of sm).trans k'⟩
end
end PA

set_option maxHeartbeats 4000000
namespace PA
open PySem PySem.Spec PyProof.Rows L2 CwR RZ
section
variable {X : Cx} {C : Addr}
/-- return text.replace("..", pick(stream, [..]), 1) -/
def tR8 : TS := fun D σ H => ∃ (a l : Addr) (n : Nat) (t : Str), σ[0]? = some (some (.ref a)) ∧ σ[1]? = some (some (.str t)) ∧ StreamAt H a l n ∧ n ≤ 20000 ∧ t.length ≤ 100000 ∧ ∀ (r : Str) (H' : Hp), r.length ≤ 2 * t.length + 5 → StreamAt H' a l (n + 1) → Keep a l H H' → D.rt (.str r) H'
theorem psst_r8 {f g : Addr} {fd gd : FuncData} {j k : Nat} {x : Str} (T : Txt X.K X.mg C) (D1 : Df X.K X.mg "_law_draw" sDraw g gd ["_law_stream", "_law_many"]) (D2 : Df X.K X.mg "_law_pick" sPick f fd ["_law_stream", "_law_some"]) (hr : Room 2 X.A) (hg : Gl X "_law_pick") (hN : X.N[0]? = some ("_law_stream" : Str))
    (hv : X.env.scope.names.lookup ("_law_stream" : Str) = some .local) (hN1 : X.N[1]? = some ("_law_text" : Str)) (hv1 : X.env.scope.names.lookup ("_law_text" : Str) = some .local)
    (sh : PySem.W.nsIn X.K cStatics sharingNotToldKey = some none) {es2 : List Expr} {cs2 : List Str} (hc2 : CEs es2 cs2) (a2 : 1 ≤ cs2.length) (b2 : cs2.length ≤ 48) (h5 : ∀ z ∈ cs2, z.length ≤ 5)
    {q0 q1 q2 q3 q4 q5 q6 q7 q8 q9 : Pos} (hline : (q1.endLine == q8.line) = true)
    (hbase : attributeBase (.Name "_law_text" q0) "replace" X.env (eval (.Name "_law_text" q0) X.env) = eval (.Name "_law_text" q0) X.env := by rfl) :
    PSsT X [.Return (some (.Call (.Attribute (.Name "_law_text" q0) "replace" q1) [.Constant (.str x) k q2, .Call (.Name "_law_pick" q3) [.Name "_law_stream" q4, .List es2 q5] [] q6, .Constant (.int 1) j q7] [] q8)) q9] tR8 := by
  intro pins s σ H D h0 I h
  obtain ⟨a, l, n, t, e0, e1, S0, hn, ht, kk⟩ := h
  refine wpAny_execs_cons (wpAny_Return_some ?_)
  refine PySem.wpAny_Call_method_lateS hbase rfl hline (raw_name hN1 (.inl hv1) I e1 (fun v r => ?_))
  obtain ⟨tx, rfl⟩ := r
  refine ⟨"str", _, F.plainAttrs_str, F.slot_str_replace, F.type_str_replace, typeIs_str _ _ _, (fun _ e => nomatch e), Calls.callWith_builtin rfl (Calls.evalArgs_plain (Calls.spliced_cons ?_))⟩
  show wpAny _ _ (eval (.Constant (.str x) k q2) X.env) _ _ s
  refine Calls.Constant_str ?_
  show wpAny _ _ (spliced ((false, eval (.Call (.Name "_law_pick" q3) [.Name "_law_stream" q4, .List es2 q5] [] q6) X.env) :: backTo q8 (starEach [.Constant (.int 1) j q7] X.env))) _ _ _
  refine Calls.spliced_cons (thn (pick_c T D1 D2 hr hg hN (.inl hv) hc2 a2 b2 (by show 1 ≤ s.toks + 1; omega) (I.tok (s.toks + 1)) e0 S0 (by omega)) fun u s3 hh => ?_)
  obtain ⟨hk3, y, ty, H3, rfl, hty, hy, I3, S3, k3, _⟩ := hh
  show wpAny _ _ (spliced ((false, eval (.Constant (.int 1) j q7) X.env) :: backTo q8 (starEach [] X.env))) _ _ _
  refine Calls.spliced_cons (wpAny_Constant_int ?_)
  refine Calls.spliced_nil ?_
  have hy5 := h5 y hy
  have I4 := I3.tok (s3.toks + 1)
  refine PySem.call_replace4 I4.kIn sh (by intro z; have : (s.toks : Nat) = 0 := z; omega) hty ht (by omega) fun r t' k hrl => ?_
  exact ⟨.str r, _, _, I4.tok k, ⟨t', rfl⟩, kk r H3 (by omega) S3 k3⟩
/-- sign = pick(..), then the ifs up to the one of kind 7: return text.replace(pick(stream, [..]), sign, 1) -/
def tS7 : TS := fun D σ H => ∃ (a l : Addr) (n : Nat) (t : Str), σ[0]? = some (some (.ref a)) ∧ σ[1]? = some (some (.str t)) ∧ σ[3]? = some (some (.int 7)) ∧ StreamAt H a l n ∧ n + 1 ≤ 20000 ∧ t.length ≤ 100000 ∧ ∀ (r : Str) (H' : Hp), r.length ≤ 2 * t.length + 5 → StreamAt H' a l (n + 2) → Keep a l H H' → D.rt (.str r) H'
theorem pss_s7 {f g : Addr} {fd gd : FuncData} {j j0 j1 j2 j3 j4 j5 j6 j7 : Nat} (T : Txt X.K X.mg C) (D1 : Df X.K X.mg "_law_draw" sDraw g gd ["_law_stream", "_law_many"]) (D2 : Df X.K X.mg "_law_pick" sPick f fd ["_law_stream", "_law_some"]) (hr : Room 2 X.A) (hg : Gl X "_law_pick") (hnd : X.N.Nodup) (hN : X.N[0]? = some ("_law_stream" : Str))
    (hv : X.env.scope.names.lookup ("_law_stream" : Str) = some .local) (hN1 : X.N[1]? = some ("_law_text" : Str)) (hv1 : X.env.scope.names.lookup ("_law_text" : Str) = some .local) (hN3 : X.N[3]? = some ("_law_kind" : Str)) (hv3 : X.env.scope.names.lookup ("_law_kind" : Str) = some .local)
    (hN4 : X.N[4]? = some ("_law_sign" : Str)) (hv4 : X.env.scope.names.lookup ("_law_sign" : Str) = some .local)
    (sh : PySem.W.nsIn X.K cStatics sharingNotToldKey = some none) {le : Expr} {cs1 : List Str} (he : PE X le (tFw cs1)) (a1 : 1 ≤ cs1.length) (b1 : cs1.length ≤ 48) (h5 : ∀ z ∈ cs1, z.length ≤ 5) {es2 : List Expr} {cs2 : List Str} (hc2 : CEs es2 cs2) (a2 : 1 ≤ cs2.length) (b2 : cs2.length ≤ 48)
    {b0 b1' b2' b3 b4 b5 b6 rest : List Stmt} {p1 p2 p4 p5 p6 c0 c1 c2 c3 c4 c5 c6 c7 d0 d1 d2 d3 d4 d5 d6 d7 e0 e1 e2 e3 e4 e5 e6 e7 n0 n1 n2 n3 n4 n5 n6 n7 q0 q1 q2 q3 q4 q5 q6 q7 q8 q9 : Pos} (hline : (q1.endLine == q8.line) = true)
    (hcls : (X.env.scope.kind == .class || (X.env.scope.kind == .module && X.env.locals != X.env.globals)) = false)
    (hst : starEach [.Name "_law_stream" p2, le] X.env = [(false, eval (.Name "_law_stream" p2) X.env), (false, eval le X.env)])
    (hs : swapsWith (.Call (.Name "_law_pick" p1) [.Name "_law_stream" p2, le] [] p4) (some (.Name "_law_sign" p5)) p6.line X.env = pure false)
    (hbase : attributeBase (.Name "_law_text" q0) "replace" X.env (eval (.Name "_law_text" q0) X.env) = eval (.Name "_law_text" q0) X.env := by rfl) :
    PSs X (.Assign [.Name "_law_sign" p5] (.Call (.Name "_law_pick" p1) [.Name "_law_stream" p2, le] [] p4) p6 ::
      .If (.Compare (.Name "_law_kind" n0) [.Eq] [.Constant (.int 0) j0 c0] d0) b0 [] e0 :: .If (.Compare (.Name "_law_kind" n1) [.Eq] [.Constant (.int 1) j1 c1] d1) b1' [] e1 :: .If (.Compare (.Name "_law_kind" n2) [.Eq] [.Constant (.int 2) j2 c2] d2) b2' [] e2 ::
      .If (.Compare (.Name "_law_kind" n3) [.Eq] [.Constant (.int 3) j3 c3] d3) b3 [] e3 :: .If (.Compare (.Name "_law_kind" n4) [.Eq] [.Constant (.int 4) j4 c4] d4) b4 [] e4 :: .If (.Compare (.Name "_law_kind" n5) [.Eq] [.Constant (.int 5) j5 c5] d5) b5 [] e5 ::
      .If (.Compare (.Name "_law_kind" n6) [.Eq] [.Constant (.int 6) j6 c6] d6) b6 [] e6 ::
      .If (.Compare (.Name "_law_kind" n7) [.Eq] [.Constant (.int 7) j7 c7] d7) [.Return (some (.Call (.Attribute (.Name "_law_text" q0) "replace" q1) [.Call (.Name "_law_pick" q3) [.Name "_law_stream" q4, .List es2 q5] [] q6, .Name "_law_sign" q2, .Constant (.int 1) j q7] [] q8)) q9] [] e7 :: rest) tS7 := by
  refine ⟨fun pins s σ H D I h => ?_⟩
  obtain ⟨a, l, n, t, w0, w1, w3, S0, hn, ht, kk⟩ := h
  refine wpAny_execs_cons (wpAny_Assign_Name (thn (pick_s T D1 D2 hr hg hN (.inl hv) he a1 b1 I w0 S0 (by omega) hst) fun u s1 hh => ?_) hs)
  obtain ⟨z, tz, H1, rfl, htz, hz, I1, S1, kp1⟩ := hh
  obtain ⟨m, hm, hl⟩ := id I1.loc
  obtain ⟨oL, _, _, hoL, _⟩ := id hm
  refine wpAny_storeName_local hv4 hm (fun h' hn' hsb => ?_) hcls
  have I2 := inv_local (v := V.str z) (t' := s1.toks + 1) I1 hnd hN4 hv4 ⟨tz, rfl⟩ hl ⟨oL, hoL⟩ hn' hsb
  have w0' : (σ.set 4 (some (V.str z)))[0]? = some (some (.ref a)) := by rw [List.getElem?_set_ne (by decide)]; exact w0
  have w1' : (σ.set 4 (some (V.str z)))[1]? = some (some (.str t)) := by rw [List.getElem?_set_ne (by decide)]; exact w1
  have w3' : (σ.set 4 (some (V.str z)))[3]? = some (some (.int 7)) := by rw [List.getElem?_set_ne (by decide)]; exact w3
  have d1' : (("_law_kind" : Str) == ("__debug__" : Str)) = false := by decide
  have d2' : (("_law_kind" : Str) == ("__classdict__" : Str)) = false := by decide
  refine raw_if hN3 (.inl hv3) I2 w3' d1' d2' (fun _ k0 hk0 => ?_) (fun e => absurd e (by decide))
  refine raw_if hN3 (.inl hv3) (I2.tok k0) w3' d1' d2' (fun _ k1 hk1 => ?_) (fun e => absurd e (by decide))
  refine raw_if hN3 (.inl hv3) (I2.tok k1) w3' d1' d2' (fun _ k2 hk2 => ?_) (fun e => absurd e (by decide))
  refine raw_if hN3 (.inl hv3) (I2.tok k2) w3' d1' d2' (fun _ k3 hk3 => ?_) (fun e => absurd e (by decide))
  refine raw_if hN3 (.inl hv3) (I2.tok k3) w3' d1' d2' (fun _ k4 hk4 => ?_) (fun e => absurd e (by decide))
  refine raw_if hN3 (.inl hv3) (I2.tok k4) w3' d1' d2' (fun _ k5 hk5 => ?_) (fun e => absurd e (by decide))
  refine raw_if hN3 (.inl hv3) (I2.tok k5) w3' d1' d2' (fun _ k6 hk6 => ?_) (fun e => absurd e (by decide))
  refine raw_if hN3 (.inl hv3) (I2.tok k6) w3' d1' d2' (fun e => absurd rfl e) (fun _ k7 hk7 => ?_)
  have h7 : 1 ≤ k7 := by
    have a0 : s1.toks + 1 ≤ k0 := hk0
    have a1 : k0 ≤ k1 := hk1
    have a2 : k1 ≤ k2 := hk2
    have a3 : k2 ≤ k3 := hk3
    have a4 : k3 ≤ k4 := hk4
    have a5 : k4 ≤ k5 := hk5
    have a6 : k5 ≤ k6 := hk6
    have a7 : k6 ≤ k7 := hk7
    omega
  have I7 := I2.tok k7
  refine wpAny_execs_cons (wpAny_Return_some ?_)
  refine PySem.wpAny_Call_method_lateS hbase rfl hline (raw_name hN1 (.inl hv1) I7 w1' (fun v r => ?_))
  obtain ⟨tx, rfl⟩ := r
  refine ⟨"str", _, F.plainAttrs_str, F.slot_str_replace, F.type_str_replace, typeIs_str _ _ _, (fun _ e => nomatch e), Calls.callWith_builtin rfl (Calls.evalArgs_plain (Calls.spliced_cons ?_))⟩
  refine thn (pick_c T D1 D2 hr hg hN (.inl hv) hc2 a2 b2 h7 I7 w0' S1 (by omega)) fun u s3 hh => ?_
  obtain ⟨hk3, y, ty, H3, rfl, hty, hy, I3, S3, k3', ns⟩ := hh
  have hn3 := ns _ hn'
  show wpAny _ _ (spliced ((false, eval (.Name "_law_sign" q2) X.env) :: backTo q8 (starEach [.Constant (.int 1) j q7] X.env))) _ _ _
  refine Calls.spliced_cons (wpAny_Name (wpAny_loadName_local I3.ok.kind hv4 hn3 (if_pos rfl) ?_) (by decide))
  show wpAny _ _ (spliced ((false, eval (.Constant (.int 1) j q7) X.env) :: backTo q8 (starEach [] X.env))) _ _ _
  refine Calls.spliced_cons (wpAny_Constant_int ?_)
  refine Calls.spliced_nil ?_
  have hz5 := h5 z hz
  have I4 := I3.tok (s3.toks + 1)
  refine PySem.call_replace4 I4.kIn sh hty htz ht (by omega) fun r t' k hrl => ?_
  exact ⟨.str r, _, _, I4.tok k, ⟨t', rfl⟩, kk r H3 (by omega) S3 (kp1.trans k3')⟩
end
end PA

set_option maxHeartbeats 8000000
namespace PA
open PySem L2 RZ
open C8 (pss_cut tCut)
theorem boot_max : bootBuiltins "max" = some (.builtin "max") := by decide +kernel
theorem sm13 {z : Int} (h1 : 1 ≤ z) (h2 : z ≤ 8001) : Sm 9000 z := by
  refine sm9000 (n := 13) ?_ (by decide)
  have e : (2 : Nat) ^ 13 = 8192 := by decide
  show z.natAbs < 2 ^ 13
  rw [e]
  omega
def spChanged : Sp := fun vs H Q _ => ∃ (a l : Addr) (n : Nat) (t : Str), vs = [.ref a, .str t] ∧ StreamAt H a l n ∧ n ≤ 15000 ∧ t.length ≤ 3900 ∧
  ∀ (t' : Str) (n' : Nat) (H' : Hp), t'.length ≤ 2 * t.length + 14 → StreamAt H' a l n' → n' ≤ n + 5 → Keep a l H H' → Q (.str t') H'
abbrev NChg : List Str := ["_law_stream", "_law_text", "_law_at", "_law_kind", "_law_sign"]
theorem sign_len {x : Str} : ∀ v ∈ (L2.signs x).map V.str, ∃ z : Str, v = .str z ∧ z.length ≤ 1 := fun v hv => by
  obtain ⟨z, hz, rfl⟩ := List.mem_map.mp hv
  obtain ⟨c, _, rfl⟩ := List.mem_map.mp hz
  exact ⟨_, rfl, Nat.le_refl _⟩
section
variable {P : Program} {w : World} {K : PySem.W.Frag} {mg : Str → Option Value} {base : Heap} {C X PE_ : Addr}
theorem scChg : FnScope NChg ["_law_stream", "_law_text"] (defScope sChanged) := ⟨rfl, rfl, rfl, by decide +kernel, rfl, by decide +kernel, by decide +kernel⟩
theorem ok_changed {f g1 g2 : Addr} {fd gd1 gd2 : FuncData} (F : Fun K "_law_changed" "_law_changed" sChanged f fd) (T : Txt K mg C) (mx : mg "max" = none) (sh : PySem.W.nsIn K cStatics sharingNotToldKey = some none) (D1 : Df K mg "_law_draw" sDraw g1 gd1 ["_law_stream", "_law_many"]) (D2 : Df K mg "_law_pick" sPick g2 gd2 ["_law_stream", "_law_some"]) : FnOk P w K mg base CX0 3 f fd ["_law_stream", "_law_text"] spChanged := by
  have G1 : FnOk P w K mg base CX0 1 g1 gd1 ["_law_stream", "_law_many"] spDraw := ok_draw D1.F T
  have G2 : FnOk P w K mg base CX0 2 g2 gd2 ["_law_stream", "_law_some"] spPick := ok_pick D2.F T D1
  refine F.ok scChg (fun vs H Q E h => ?_) (fun cdv A outer s H vs Q E hr h => ?_)
  · obtain ⟨a, l, n, t, rfl, _⟩ := h
    rfl
  · obtain ⟨a, l, n, t, rfl, S0, hn, hl, kk⟩ := h
    have hr1 : Room 1 _ := hr.mono (by decide)
    have hr2 : Room 2 _ := hr.mono (by decide)
    refine ⟨_, pss_cons (ps_par (i := 2) (j := 3) (by rfl) scChg.nd rfl rfl (by decide) rfl rfl (pa_cons (pe_call G1 hr1 rfl D1.M D1.F.kp D1.B .nil pass0 (pa_cons (pv 0) (pa_cons (pe_op op_add (pe_callB call_len_str (by rfl) T.len_ PySem.boot_len (pa_cons (pv 1) pa_nil)) pe_int) pa_nil))) (pa_cons (pe_call G1 hr1 rfl D1.M D1.F.kp D1.B .nil pass0 (pa_cons (pv 0) (pa_cons pe_int pa_nil))) pa_nil)) (by rfl))
      (pss_or (pss_cut (ps_set (i := 4) scChg.nd rfl (Or.inl rfl) (pe_call G2 hr2 rfl D2.M D2.F.kp D2.B .nil pass0 (pa_cons (pv 0) (pa_cons (pe_op op_cat (pe_callTy (call_list_str (by rfl)) (by rfl) T.list_ boot_list' (pa_cons pe_str pa_nil)) (pe_lst (pa_cons pe_str (pa_cons pe_str (pa_cons pe_str pa_nil))))) pa_nil))))
      (pss_cons (ps_if (pt_cmpR op_eq (pv 3) pe_int (nomark _)) (pss_one (ps_ret (pe_op op_add_str (pe_op op_add_str (pe_slice sl_str (pv 1) po_none (po_some (pv 2))) (pv 4)) (pe_slice sl_str (pv 1) (po_some (pv 2)) po_none)))) pss_nil)
      (pss_cons (ps_if (pt_cmpR op_eq (pv 3) pe_int (nomark _)) (pss_one (ps_ret (pe_op op_add_str (pe_slice sl_str (pv 1) po_none (po_some (pv 2))) (pe_slice sl_str (pv 1) (po_some (pe_op op_add (pv 2) pe_int)) po_none)))) pss_nil)
      (pss_cons (ps_if (pt_cmpR op_eq (pv 3) pe_int (nomark _)) (pss_one (ps_ret (pe_op op_add_str (pe_op op_add_str (pe_slice sl_str (pv 1) po_none (po_some (pv 2))) (pv 4)) (pe_slice sl_str (pv 1) (po_some (pe_op op_add (pv 2) pe_int)) po_none)))) pss_nil)
      (pss_cons (ps_if (pt_cmpR op_eq (pv 3) pe_int (nomark _)) (pss_one (ps_ret (pe_op op_add_str (pe_slice sl_str (pv 1) po_none (po_some (pv 2))) (pe_slice sl_str (pv 1) (po_some (pe_callB (call_max2 (by rfl)) (by rfl) mx boot_max (pa_cons pe_int (pa_cons (pe_op op_sub (pv 2) (pe_call G1 hr1 rfl D1.M D1.F.kp D1.B .nil pass0 (pa_cons (pv 0) (pa_cons pe_int pa_nil)))) pa_nil)))) po_none)))) pss_nil)
      (pss_cons (ps_if (pt_cmpR op_eq (pv 3) pe_int (nomark _)) (pss_one (ps_ret (pe_op op_add_str (pe_slice sl_str (pv 1) po_none (po_some (pv 2))) (pe_slice sl_str (pv 1) (po_some (pe_op op_add (pv 2) (pe_call G1 hr1 rfl D1.M D1.F.kp D1.B .nil pass0 (pa_cons (pv 0) (pa_cons pe_int pa_nil))))) po_none)))) pss_nil)
      (pss_cons (ps_if (pt_cmpR op_eq (pv 3) pe_int (nomark _)) (pss_one (ps_ret (pe_op op_add_str (pv 1) (pe_call G2 hr2 rfl D2.M D2.F.kp D2.B .nil pass0 (pa_cons (pv 0) (pa_cons (pe_lst (pa_cons pe_str (pa_cons pe_str (pa_cons pe_str (pa_cons pe_str (pa_cons pe_str (pa_cons pe_str (pa_cons pe_str (pa_cons pe_str pa_nil))))))))) pa_nil)))))) pss_nil)
      (pss_cons (ps_if (pt_cmpR op_eq (pv 3) pe_int (nomark _)) (pss_one (ps_ret (pe_op op_add_str (pe_slice sl_str (pv 1) (po_some (pv 2)) po_none) (pe_slice sl_str (pv 1) po_none (po_some (pv 2)))))) pss_nil)
      (pss_ifN (pv 3) op_eq pss_never (psst_r8 T D1 D2 hr2 (by rfl) (by rfl) (by rfl) (by rfl) (by rfl) sh (.cons ";" _ _ (.cons ";  " _ _ (.cons " ; " _ _ (.cons ", " _ _ (.cons ";\n" _ _ .nil))))) (by decide) (by decide) (by decide +kernel) (by rfl) (by rfl)) (nomark _))))))))))
      (pss_s7 T D1 D2 hr2 (by rfl) scChg.nd (by rfl) (by rfl) (by rfl) (by rfl) (by rfl) (by rfl) (by rfl) (by rfl) sh (pe_signs (by rfl) (by rfl) T.list_ boot_list' (.cons "\n" _ _ (.cons "x" _ _ (.cons "A" _ _ .nil))) (by decide) (by decide) (by decide +kernel)) (by decide +kernel) (by decide +kernel) (by decide +kernel) (.cons "stay" _ _ (.cons "go" _ _ (.cons "0" _ _ (.cons "; " _ _ (.cons " | " _ _ (.cons "1" _ _ .nil)))))) (by decide) (by decide) (by rfl) (by rfl) (by rfl) (by rfl) (by rfl))), ?_⟩
    have szl : ∀ {n : Nat}, n ≤ 20000 → n ≤ sizeLine := fun h => Nat.le_trans h (by decide)
    refine ⟨_, rfl, _, rfl, t, rfl, szl (by omega), _, _, rfl, rfl, a, l, n, _, rfl, S0, by omega, by omega, sm13 (by omega) (by omega), fun at_ H1 a0 a1 S1 k1 => ?_⟩
    refine ⟨_, rfl, a, l, n + 1, 9, rfl, S1, by omega, by decide, sm48 (by decide) (by decide), fun kd H2 d0 d1 S2 k2 => ⟨_, _, rfl, ?_⟩⟩
    have k12 := k1.trans k2
    by_cases h7 : kd = 7
    · subst h7
      exact .inr ⟨a, l, n + 2, t, rfl, rfl, rfl, S2, by omega, by omega, fun r H' hr S' k' => kk r _ H' (by omega) S' (by omega) (k12.trans k')⟩
    refine .inl ?_
    refine ⟨fun σ' H' => ∃ sg : Str, σ' = [some (.ref a), some (.str t), some (.int at_), some (.int kd), some (.str sg)] ∧ sg.length ≤ 1 ∧ StreamAt H' a l (n + 3) ∧ Keep a l H H', ?_, ?_⟩
    · refine ⟨_, rfl, _, rfl, by decide +kernel, fun q hq => ⟨by show 3 ≤ sizeLine; decide, fun q2 hq2 => ?_⟩⟩
      have s1 := new_ (o := .lst ((L2.signs "0123456789 ;|falstygo-+_").map V.str)) hq
      have s2 := new_ (o := .lst [V.str "\n", V.str "x", V.str "A"]) hq2
      have g1 := s2 _ _ (upd_same (H := H2) (a := q) (o := .lst ((L2.signs "0123456789 ;|falstygo-+_").map V.str)))
      refine ⟨_, _, _, _, rfl, rfl, g1, upd_same, by decide +kernel, fun q3 hq3 => ?_⟩
      have s3 := new_ (o := .lst ((L2.signs "0123456789 ;|falstygo-+_").map V.str ++ [V.str "\n", V.str "x", V.str "A"])) hq3
      have S3 := ((S2.same s1).same s2).same s3
      have hL : (upd (upd (upd H2 q (.lst ((L2.signs "0123456789 ;|falstygo-+_").map V.str))) q2 (.lst [V.str "\n", V.str "x", V.str "A"])) q3 (.lst ((L2.signs "0123456789 ;|falstygo-+_").map V.str ++ [V.str "\n", V.str "x", V.str "A"]))) q3 = some (.lst ((L2.signs "0123456789 ;|falstygo-+_").map V.str ++ [V.str "\n", V.str "x", V.str "A"])) := upd_same
      obtain ⟨Da, Dl⟩ := ((S2.same s1).same s2).ne hq3
      have k3 : Keep a l H _ := k12.trans (Keep.of ((s1.trans s2).trans s3))
      generalize (upd (upd (upd H2 q (.lst ((L2.signs "0123456789 ;|falstygo-+_").map V.str))) q2 (.lst [V.str "\n", V.str "x", V.str "A"])) q3 (.lst ((L2.signs "0123456789 ;|falstygo-+_").map V.str ++ [V.str "\n", V.str "x", V.str "A"]))) = H3 at S3 hL k3 ⊢
      refine ⟨a, l, q3, _, _, rfl, S3, by omega, hL, Da, Dl, by decide +kernel, by decide +kernel, fun i x H4 hx S4 k4 => ?_⟩
      have hm := List.mem_of_getElem? hx
      obtain ⟨z, rfl, hz⟩ : ∃ z : Str, x = .str z ∧ z.length ≤ 1 := by
        rcases List.mem_append.mp hm with hm | hm
        · exact sign_len x hm
        · simp only [List.mem_cons, List.not_mem_nil, or_false] at hm
          rcases hm with rfl | rfl | rfl
          · exact ⟨_, rfl, by decide +kernel⟩
          · exact ⟨_, rfl, by decide +kernel⟩
          · exact ⟨_, rfl, by decide +kernel⟩
      exact ⟨z, rfl, hz, S4, k3.trans k4⟩
    rintro _ H3 ⟨sg, rfl, hsg, S3, k3⟩
    have c1 : ∀ lo hi, (cutS t lo hi).length ≤ t.length := fun lo hi => cutS_length t lo hi
    refine ⟨_, rfl, rfl, _, rfl, ifD_2 (fun _ => ?_) (fun _ => ?_)⟩
    · refine ⟨_, rfl, _, rfl, _, rfl, t, rfl, szl (by omega), _, rfl, _, _, rfl, rfl, szl ?_, _, rfl, _, rfl, _, rfl, t, rfl, szl (by omega), _, _, rfl, rfl, szl ?_, kk _ _ H3 ?_ S3 (by omega) k3⟩
      · have := c1 none (some at_); omega
      · have := c1 none (some at_); have := c1 (some at_) none; rw [Str.length_append]; omega
      · have := c1 none (some at_); have := c1 (some at_) none; rw [Str.length_append, Str.length_append]; omega
    refine ⟨_, rfl, rfl, _, rfl, ifD_2 (fun _ => ?_) (fun _ => ?_)⟩
    · refine ⟨_, rfl, _, rfl, _, rfl, t, rfl, szl (by omega), _, rfl, _, rfl, _, _, rfl, rfl, _, rfl, t, rfl, szl (by omega), _, _, rfl, rfl, szl ?_, kk _ _ H3 ?_ S3 (by omega) k3⟩
      · have := c1 none (some at_); have := c1 (some (at_ + 1)) none; omega
      · have := c1 none (some at_); have := c1 (some (at_ + 1)) none; rw [Str.length_append]; omega
    refine ⟨_, rfl, rfl, _, rfl, ifD_2 (fun _ => ?_) (fun _ => ?_)⟩
    · refine ⟨_, rfl, _, rfl, _, rfl, t, rfl, szl (by omega), _, rfl, _, _, rfl, rfl, szl ?_, _, rfl, _, rfl, _, _, rfl, rfl, _, rfl, t, rfl, szl (by omega), _, _, rfl, rfl, szl ?_, kk _ _ H3 ?_ S3 (by omega) k3⟩
      · have := c1 none (some at_); omega
      · have := c1 none (some at_); have := c1 (some (at_ + 1)) none; rw [Str.length_append]; omega
      · have := c1 none (some at_); have := c1 (some (at_ + 1)) none; rw [Str.length_append, Str.length_append]; omega
    refine ⟨_, rfl, rfl, _, rfl, ifD_2 (fun _ => ?_) (fun _ => ?_)⟩
    · refine ⟨_, rfl, _, rfl, _, rfl, t, rfl, szl (by omega), _, rfl, _, rfl, _, rfl, a, l, _, 16, rfl, S3, by omega, by decide, sm48 (by decide) (by decide), fun r H4 r0 r1 S4 k4 => ?_⟩
      refine ⟨_, _, rfl, rfl, _, _, rfl, _, rfl, t, rfl, szl (by omega), _, _, rfl, rfl, szl ?_, kk _ _ H4 ?_ S4 (by omega) (k3.trans k4)⟩
      · have := c1 none (some at_); have := cutS_length t (some (if at_ - r > 0 then at_ - r else 0)) none; omega
      · have := c1 none (some at_); have := cutS_length t (some (if at_ - r > 0 then at_ - r else 0)) none; rw [Str.length_append]; omega
    refine ⟨_, rfl, rfl, _, rfl, ifD_2 (fun _ => ?_) (fun _ => ?_)⟩
    · refine ⟨_, rfl, _, rfl, _, rfl, t, rfl, szl (by omega), _, rfl, _, rfl, _, rfl, a, l, _, 18, rfl, S3, by omega, by decide, sm48 (by decide) (by decide), fun r H4 r0 r1 S4 k4 => ?_⟩
      refine ⟨_, _, rfl, rfl, _, rfl, t, rfl, szl (by omega), _, _, rfl, rfl, szl ?_, kk _ _ H4 ?_ S4 (by omega) (k3.trans k4)⟩
      · have := c1 none (some at_); have := cutS_length t (some (at_ + r)) none; omega
      · have := c1 none (some at_); have := cutS_length t (some (at_ + r)) none; rw [Str.length_append]; omega
    refine ⟨_, rfl, rfl, _, rfl, ifD_2 (fun _ => ?_) (fun _ => ?_)⟩
    · refine ⟨_, rfl, _, rfl, by show 8 ≤ sizeLine; decide, fun q hq => ?_⟩
      have s4 := new_ (o := .lst [V.str " | 0", V.str "; ", V.str ";", V.str "\n", V.str " ", V.str " | ", V.str " | 0 0 0 0", V.str "; 0 stay 0 go"]) hq
      obtain ⟨qa, ql⟩ := S3.ne hq
      refine ⟨a, l, q, _, _, rfl, S3.same s4, by omega, upd_same, qa, ql, by decide, by decide, fun i x H4 hx S4 k4 => ?_⟩
      obtain ⟨z, rfl, hz⟩ : ∃ z : Str, x = .str z ∧ z.length ≤ 13 := by
        have hm := List.mem_of_getElem? hx
        simp only [List.mem_cons, List.not_mem_nil, or_false] at hm
        rcases hm with rfl | rfl | rfl | rfl | rfl | rfl | rfl | rfl <;> exact ⟨_, rfl, by decide +kernel⟩
      refine ⟨_, _, rfl, rfl, szl (by omega), kk _ _ H4 ?_ S4 (by omega) ((k3.trans (Keep.of s4)).trans k4)⟩
      rw [Str.length_append]
      omega
    refine ⟨_, rfl, rfl, _, rfl, ifD_2 (fun _ => ?_) (fun _ => ?_)⟩
    · refine ⟨_, rfl, _, rfl, _, rfl, t, rfl, szl (by omega), _, rfl, _, rfl, _, rfl, t, rfl, szl (by omega), _, _, rfl, rfl, szl ?_, kk _ _ H3 ?_ S3 (by omega) k3⟩
      · have := c1 none (some at_); have := c1 (some at_) none; omega
      · have := c1 none (some at_); have := c1 (some at_) none; rw [Str.length_append]; omega
    refine ⟨_, rfl, rfl, _, rfl, ifD_2 (fun h => ?_) (fun _ => ?_)⟩
    · exact absurd (by injection h) h7
    · exact ⟨a, l, _, t, rfl, rfl, S3, by omega, by omega, fun r H' hr S' k' => kk _ _ H' (by omega) S' (by omega) (k3.trans k')⟩
end
end PA

set_option maxHeartbeats 8000000
namespace PA
open PySem L2 RZ TS
open C8 (pss_cut tCut)
abbrev sLen : Stmt := inClass (top 30) 4
theorem passes_len {X : Cx} {W : WX} {n : Nat} (tk : Takes X W) (hn : X.N.length = n) : Passes (CX X.prog X.w) X (fun cls d H => ∀ σ : L2.St, σ.length = n → W cls d σ H) := by
  intro pins σ H s e s' I h
  obtain ⟨a, B, H', cls, d, h1, h2, h3, h4, h5, h6, h7, h8⟩ := h
  exact passAt tk σ pins H s e s' I ⟨a, B, H', cls, d, h1, h2, h3, h4, h5, h6, h7, h8 σ (I.len.trans hn)⟩
theorem pe_fldF {X : Cx} {K : PySem.W.Frag} (hK : X.K = K) {e : PySem.Expr} {f : Str} {pos : Pos} {ta : TE} (h : PE X e ta) (h2 : attributeBase e f X.env (eval e X.env) = eval e X.env := by rfl) : PE X (e.Attribute f pos) (tFld K ta f) := by
  subst hK
  exact pe_fld h h2
/-! ### 49 rows are too many -/
theorem join_snoc (sep : Str) (z : Str) : ∀ ys : List Str, ys ≠ [] → Str.join sep (ys ++ [z]) = Str.join sep ys ++ sep ++ z
  | [], h => absurd rfl h
  | [y], _ => by
    show Str.join sep [y, z] = _
    rw [join_two, Str.join.eq_2, Str.join.eq_2]
  | y :: x :: r, _ => by
    have ih := join_snoc sep z (x :: r) (by simp)
    show Str.join sep (y :: x :: (r ++ [z])) = _
    rw [join_two, join_two]
    have ih : Str.join sep (x :: (r ++ [z])) = Str.join sep (x :: r) ++ sep ++ z := ih
    rw [ih]
    apply cs_inj
    simp only [cs_app, List.append_assoc]
def rTail : TR.Lr := (0, false, 0, true)
theorem tail_tx : (("; " : Str)) ++ TR.rowS rTail = "; 0 stay 0 go" := by decide +kernel
theorem no49 {rows : List Rw} (h : ∀ r ∈ rows, RwOk 48 r) (h48 : rows.length = 48) : ¬ IsTxt (rowsTx rows ++ "; 0 stay 0 go") := by
  have nn : ∀ r ∈ rows, 0 ≤ r.1 ∧ 0 ≤ r.2.2.1 := fun r hr => ⟨(h r hr).1.1, (h r hr).2.1⟩
  have e49 : rowsTx rows ++ "; 0 stay 0 go" = TR.rtx (rows.map toL ++ [rTail]) := by
    rw [rows_TR nn]
    unfold TR.rtx
    rw [List.map_append]
    show _ = Str.join "; " ((rows.map toL).map TR.rowS ++ [TR.rowS rTail])
    rw [join_snoc _ _ _ (by
      intro z
      have := congrArg List.length z
      rw [List.length_map, List.length_map, h48] at this
      cases this), ← tail_tx]
    apply cs_inj
    simp only [cs_app, List.append_assoc]
  have ok49 : ∀ l ∈ rows.map toL ++ [rTail], TR.LOk 48 l := fun l hl => by
    rcases List.mem_append.mp hl with hl | hl
    · obtain ⟨r, hr, rfl⟩ := List.mem_map.mp hl
      obtain ⟨⟨a0, a1⟩, c0, c1⟩ := h r hr
      exact ⟨by show r.1.toNat < 48; omega, by show r.2.2.1.toNat < 48; omega⟩
    · rw [List.mem_singleton.mp hl]
      exact ⟨by decide, by decide⟩
  rintro ⟨rows', starts', k', g', e'⟩
  have hp : PySem.Txt.split (rowsTx rows ++ "; 0 stay 0 go") " | " = [rowsTx rows ++ "; 0 stay 0 go"] := by
    rw [e49]
    exact TR.split_bar1 (TR.bar_rtx ok49)
  have hpg := parts_good g'
  rw [← e', hp] at hpg
  rcases hpg with ⟨_, e⟩ | ⟨_, e⟩
  · have e : rowsTx rows ++ "; 0 stay 0 go" = rowsTx rows' := by injection e
    rw [e49, rows_TR (nonneg g').1] at e
    have gr := good_TR g'
    have q := TR.rtx_inj (by simp) ok49 gr.ne gr.all48 e
    have q := congrArg List.length q
    rw [List.length_append, List.length_map, List.length_map, h48] at q
    have := g'.most
    simp at q
    omega
  · simp at e
def spLen (K : PySem.W.Frag) (C : Addr) : Sp := fun vs H Q _ => ∃ (p : Addr) (rows : List Rw) (starts : List Int) (k : Int), vs = [.ref p] ∧ RuleAt K C H p rows starts k ∧ Q (.int (rows.length : Nat)) H
def spLongest : Sp := fun vs H Q _ => ∃ (a l : Addr) (n : Nat), vs = [.ref a] ∧ StreamAt H a l n ∧ n ≤ 5000 ∧ ∀ H', Q (.bl true) H'
/-- what the law asks of reading -/
structure ReadR (K : PySem.W.Frag) (w : World) (mg : Str → Option Value) (C X PE_ fI dd g1 g2 g3 g4 fS s1 s2 s3 r1 r2 fL fR pR : Addr) (mc : Value) (dI gd1 gd2 gd3 gd4 dS sd1 sd2 sd3 rd1 rd2 dL dR : FuncData) : Prop where
  L : LibR K w mg C X PE_ fI dd g1 g2 g3 g4 fS s1 s2 s3 r1 r2 dI gd1 gd2 gd3 gd4 dS sd1 sd2 sd3 rd1 rd2
  FL : Fun K "__len__" "Rule.__len__" sLen fL dL
  bL : Binds K dL ["self"] []
  aL : PySem.W.findIn K (.ref C) "__len__" = some (some (.ref fL))
  iL : PySem.W.isFn K (.ref fL) = true
  FR : Fun K "read" "Rule.read" sRead fR dR
  bR : Binds K dR ["text"] []
  cr : ClX.CRead K C mc
  sm : SMet K C mc "read" pR fR
abbrev NLong : List Str := ["_law_stream", "_law_rows", "_law_text", "_law_k"]
section
variable {P : Program} {w : World} {K : PySem.W.Frag} {mg : Str → Option Value} {base : Heap} {C X PE_ fI dd g1 g2 g3 g4 fS s1 s2 s3 r1 r2 fL fR pR : Addr} {mc : Value} {dI gd1 gd2 gd3 gd4 dS sd1 sd2 sd3 rd1 rd2 dL dR : FuncData}
theorem scLen : FnScope ["self"] ["self"] (defScope sLen) := ⟨rfl, rfl, rfl, by decide +kernel, rfl, by decide +kernel, by decide +kernel⟩
theorem ok_len {f : Addr} {fd : FuncData} (F : Fun K "__len__" "Rule.__len__" sLen f fd) (T : Txt K mg C) : FnOk P w K mg base CX0 1 f fd ["self"] (spLen K C) := by
  refine F.ok scLen (fun vs H Q E h => ?_) (fun cdv A outer s H vs Q E hr h => ?_)
  · obtain ⟨p, _, _, _, rfl, _⟩ := h
    rfl
  · obtain ⟨p, rows, starts, k, rfl, ⟨dx, R, S, refs, hp, hR, hE, hS⟩, kk⟩ := h
    refine ⟨_, pss_one (ps_ret (pe_callB call_len_seq (by rfl) T.len_ PySem.boot_len (pa_cons (pe_fld (pv 0) rfl) pa_nil))), ?_⟩
    refine ⟨_, rfl, p, C, dx, _, _, rfl, hp, T.cl, T.nR, rf_rows _ _ _, R, _, rfl, .inr (SqT.of hR), ?_⟩
    rw [hE.1]
    exact kk
theorem scLong : FnScope NLong ["_law_stream"] (defScope sLongest) := ⟨rfl, rfl, rfl, by decide +kernel, rfl, by decide +kernel, by decide +kernel⟩
theorem ok_longest {f h1 h2 : Addr} {fd hd1 hd2 : FuncData} (F : Fun K "_law_longest" "_law_longest" sLongest f fd) (G : ReadR K w mg C X PE_ fI dd g1 g2 g3 g4 fS s1 s2 s3 r1 r2 fL fR pR mc dI gd1 gd2 gd3 gd4 dS sd1 sd2 sd3 rd1 rd2 dL dR)
    (D1 : Df K mg "_law_draw" sDraw h1 hd1 ["_law_stream", "_law_many"]) (D2 : Df K mg "_law_m_text" sText h2 hd2 ["_law_rows", "_law_starts"]) : FnOk P w K mg base CX0 8 f fd ["_law_stream"] spLongest := by
  have T := G.L.T
  have TX := G.L.TX
  have GD : FnOk P w K mg base CX0 1 h1 hd1 ["_law_stream", "_law_many"] spDraw := ok_draw D1.F T
  have GT : FnOk P w K mg base CX0 1 h2 hd2 ["_law_rows", "_law_starts"] spText := ok_text D2.F T G.L.TS
  have GL : FnOk P w K mg base CX0 1 fL dL ["self"] (spLen K C) := ok_len G.FL T
  have GR : FnOk P w K mg base (L2.CX P w) 7 fR dR ["text"] (spRead K C X) := ok_read G.FR G.L
  refine F.ok scLong (fun vs H Q E h => ?_) (fun cdv A outer s H vs Q E hr h => ?_)
  · obtain ⟨o, _, _, rfl, _⟩ := h
    rfl
  · obtain ⟨a, l, n, rfl, S0, hn, kk⟩ := h
    have hr1 : Room 1 _ := hr.mono (by decide)
    have hr2 : Room 2 _ := hr.mono (by decide)
    refine ⟨_, pss_cons (ps_setLc (i := 1) (own := [("_law_k", 3)]) (g := gName 3) (tt := tYes) (by rfl) scLong.nd rfl rfl (sw_true rfl rfl rfl (by decide +kernel)) (pi_range1 (by rfl) T.range_ (pa_cons pe_int pa_nil)) (blkOk_by (N := NLong) (sc := defScope sLongest) (by decide +kernel))
          (fun _ _ _ _ _ => pg_name (i := 3) scLong.nd rfl (Or.inl rfl)) (fun _ _ _ _ _ => pts_nil)
          (fun _ _ _ _ _ => pe_tup (pa_cons (pe_call GD hr1 rfl D1.M D1.F.kp D1.B .nil pass0 (pa_cons (pv 0) (pa_cons pe_int pa_nil))) (pa_cons (pe_cmpR op_eq (pe_call GD hr1 rfl D1.M D1.F.kp D1.B .nil pass0 (pa_cons (pv 0) (pa_cons pe_int pa_nil))) pe_int (nomark _)) (pa_cons (pe_call GD hr1 rfl D1.M D1.F.kp D1.B .nil pass0 (pa_cons (pv 0) (pa_cons pe_int pa_nil))) (pa_cons pe_bl pa_nil))))))
      (pss_cons (ps_set (i := 2) scLong.nd rfl (Or.inl rfl) (pe_call GT hr1 rfl D2.M D2.F.kp D2.B .nil pass0 (pa_cons (pv 1) (pa_cons (pe_lst (pa_cons pe_int pa_nil)) pa_nil))))
      (pss_cons (ps_if (pt_cmpR op_ne (pe_callB (call_lenOwn (E := E0) G.aL G.iL GL hr2 G.bL pass0) (by rfl) T.len_ PySem.boot_len (pa_cons (pe_smeth (E := E0) (pl := _) (pe_glob (v := .ref C) rfl T.mgC rfl) G.cr G.sm GR hr G.FR.kp G.bR passL (pa_cons (pv 2) pa_nil)) pa_nil)) pe_int (nomark _)) pss_never pss_nil)
      (pss_cons (ps_try_only (Wout := fun _ _ _ _ => False) rfl rfl ⟨by rfl, by decide, .inl TX.g⟩ takes0
            (fun W pn xe tk _ => pss_one (ps_expr (pe_smethS (E := WE W) (pl := _) (pe_glob (v := .ref C) rfl T.mgC rfl) G.cr G.sm GR hr G.FR.kp G.bR (fun σ => passAt tk σ) (pa_cons (pe_op op_add_str (pv 2) pe_str) pa_nil))))
            (fun a oe cls d pn hz hf => pss_one (ps_ret pe_bl)))
      (pss_one (ps_ret pe_bl))))), ?_⟩
    refine ⟨48, rfl, by decide, by decide, fun RD hRD => ?_⟩
    obtain ⟨Ra, Rl⟩ := S0.ne hRD
    refine lc_range (n := 48) (fun i H' => ∃ acc rows, StreamAt H' a l (n + 3 * i) ∧ Keep a l H H' ∧ H' RD = some (.lst acc) ∧ Each H' isT acc rows ∧ rows.length = i ∧ ∀ r ∈ rows, RwOk 48 r) ⟨[], [], S0.same (new_ hRD), Keep.of (new_ hRD), upd_same, Each.nil, rfl, fun r hr => by cases hr⟩ ?_ ?_
    · rintro i H1 hi ⟨acc, rows, S1, k1, hd, he, hlen, hok⟩
      refine ⟨rfl, ?_⟩
      dsimp only [tYes]
      rw [if_pos rfl]
      refine ⟨_, rfl, a, l, _, 48, rfl, S1, by omega, by decide, sm48 (by decide) (by decide), fun r1 H2 a0 a1 S2 k2 => ?_⟩
      refine ⟨_, rfl, a, l, _, 2, rfl, S2, by omega, by decide, sm48 (by decide) (by decide), fun r2 H3 b0 b1 S3 k3 => ⟨rfl, ?_⟩⟩
      refine ⟨_, rfl, a, l, _, 48, rfl, S3, by omega, by decide, sm48 (by decide) (by decide), fun r3 H4 c0 c1 S4 k4 => ⟨by show 4 ≤ sizeLine; decide, fun q hq => ?_⟩⟩
      have k14 : Keep a l H1 H4 := (k2.trans k3).trans k4
      have hd4 := k14 _ _ Ra Rl hd
      have he4 : Each H4 isT acc rows := he.imp fun c r z => z.kp S1 k14
      have sq := new_ (o := .tup (rv (r1, decide (V.int r2 = V.int 0), r3, false))) hq
      have hd5 := sq _ _ hd4
      refine ⟨acc, hd5, ?_, acc ++ [.ref q], rows ++ [(r1, decide (V.int r2 = V.int 0), r3, false)], ?_, ?_, upd_same, ?_, ?_, ?_⟩
      · rw [he.1, hlen]
        exact Nat.lt_of_lt_of_le hi (by decide)
      · exact ((S4.same sq).lst hd5 Ra Rl).at_ (by omega)
      · intro c o ca cl e
        rw [upd_ne (ne_of_none e hRD)]
        exact sq _ _ (k14 _ _ ca cl (k1 _ _ ca cl e))
      · exact ((he4.imp fun c r z => (show isT _ c r from sq _ _ z)).imp fun c r z => z.lst hd5).push ((show isT (upd H4 q (.tup (rv (r1, decide (V.int r2 = V.int 0), r3, false)))) q (r1, decide (V.int r2 = V.int 0), r3, false) from upd_same).lst hd5)
      · rw [List.length_append, hlen]
        rfl
      · intro r hr
        rcases List.mem_append.mp hr with hr | hr
        · exact hok r hr
        · rw [List.mem_singleton.mp hr]
          exact ⟨⟨a0, a1⟩, c0, c1⟩
    rintro H1 ⟨acc, rows, S1, k1, hd, he, hlen, hok⟩
    have g : Good rows [0] 1 := ⟨by omega, by omega, fun r hr => by rw [hlen]; exact hok r hr, .r1, fun s hs => by
      rw [List.mem_singleton.mp hs, hlen]
      decide⟩
    refine ⟨_, rfl, by show 1 ≤ sizeLine; decide, fun q hq => ?_⟩
    have sq := new_ (o := .lst [V.int 0]) hq
    refine ⟨RD, q, acc, rows, [0], 1, rfl, sq _ _ hd, he.imp fun c r z => sq _ _ z, upd_same, g, fun H2 s2 => ?_⟩
    have hl := txt_le g
    refine ⟨rfl, _, rfl, ruleTx rows [0], rfl, by omega, fun rows' starts' k' g' e' p H3 s3 hp r3 => ?_, fun no => absurd ⟨rows, [0], 1, g, rfl⟩ no⟩
    have er : rows'.length = 48 := by
      rw [txt_TR g, txt_TR g'] at e'
      have q := (TR.txt_inj (good_TR g) (good_TR g') e').1
      have q := congrArg List.length q
      rw [List.length_map, List.length_map, hlen] at q
      exact q.symm
    obtain ⟨dx, _, _, _, hpx, _⟩ := id r3
    refine ⟨p, dx, _, rfl, hpx, p, rows', starts', k', rfl, r3, rows'.length, rfl, by omega, rfl, _, rfl, ?_⟩
    rw [er, decide_eq_true (show V.int ((48 : Nat) : Int) = V.int 48 from rfl)]
    refine iteF ?_
    have e0 : ruleTx rows [0] = rowsTx rows := plain_eq rows
    have hl13 : ("; 0 stay 0 go" : Str).length = 13 := by decide +kernel
    rw [e0] at hl ⊢
    refine ⟨rfl, _, rfl, _, _, rfl, rfl, Nat.le_trans (show _ ≤ 1000 by rw [hl13]; omega) (by decide), rowsTx rows ++ "; 0 stay 0 go", rfl, by rw [Str.length_append, hl13]; omega, fun rows'' starts'' k'' g'' e'' => absurd ⟨rows'', starts'', k'', g'', e''⟩ (no49 hok hlen), fun _ H4 s4 => ⟨true, TX.ex, fun _ a' ha' => kk _, fun q => Bool.noConfusion q⟩⟩
end
end PA

set_option maxHeartbeats 8000000
namespace PA
open PySem L2 RZ TS
open C8 (pss_cut tCut)
def Flat (x : V) : Prop := (∃ i, x = .int i) ∨ ∃ b, x = .bl b
theorem Two.flat {K : PySem.W.Frag} {H : Hp} {n : Nat} {x : V} (f : Flat x) : Two K H n x x := by
  rcases f with ⟨i, rfl⟩ | ⟨b, rfl⟩
  · exact .int n i
  · exact .bl n b
theorem Two.flatT {K : PySem.W.Frag} {H : Hp} {n : Nat} {a b : Addr} {xs : List V} (ha : SqT K H a xs) (hb : SqT K H b xs) (hz : xs.length ≤ sizeLine) (f : ∀ x ∈ xs, Flat x) : Two K H (n + 1) (.ref a) (.ref b) := by
  refine .tup ha hb rfl hz fun i x y h1 h2 => ?_
  rw [h1] at h2
  have e : x = y := by injection h2
  subst e
  exact .flat (f x (List.mem_of_getElem? h1))
theorem rv_flat (r : Rw) : ∀ x ∈ rv r, Flat x := by
  intro x hx
  unfold rv at hx
  simp only [List.mem_cons, List.not_mem_nil, or_false] at hx
  rcases hx with rfl | rfl | rfl | rfl
  · exact .inl ⟨_, rfl⟩
  · exact .inr ⟨_, rfl⟩
  · exact .inl ⟨_, rfl⟩
  · exact .inr ⟨_, rfl⟩
theorem ints_flat (ns : List Int) : ∀ x ∈ ns.map V.int, Flat x := by
  intro x hx
  obtain ⟨z, _, rfl⟩ := List.mem_map.mp hx
  exact .inl ⟨z, rfl⟩
theorem two_rows {K : PySem.W.Frag} {H : Hp} {t1 t2 : Addr} {xs ys : List V} {rows : List Rw} (h1 : H t1 = some (.tup xs)) (h2 : H t2 = some (.tup ys)) (e1 : Each H isT xs rows) (e2 : Each H isT ys rows) (h48 : rows.length ≤ 48) : Two K H 2 (.ref t1) (.ref t2) := by
  refine .tup (SqT.of h1) (SqT.of h2) (by rw [e1.1, e2.1]) (by rw [e1.1]; exact Nat.le_trans h48 (by decide)) fun i x y hx hy => ?_
  have hi : i < rows.length := by rw [← e1.1]; exact (List.getElem?_eq_some_iff.mp hx).1
  obtain ⟨c, rfl, q⟩ := e1.2 i x _ hx (List.getElem?_eq_getElem hi)
  obtain ⟨d, rfl, q'⟩ := e2.2 i y _ hy (List.getElem?_eq_getElem hi)
  exact .flatT (SqT.of q) (SqT.of q') (by show 4 ≤ sizeLine; decide) (rv_flat _)
theorem two_found {K : PySem.W.Frag} {H : Hp} {fo due R1 S1 R2 S2 : Addr} {xs ys : List V} {rows : List Rw} {starts : List Int} (h1 : H fo = some (.tup [.ref R1, .ref S1])) (h2 : H due = some (.tup [.ref R2, .ref S2])) (hR1 : H R1 = some (.tup xs)) (hR2 : H R2 = some (.tup ys)) (e1 : Each H isT xs rows) (e2 : Each H isT ys rows)
    (hS1 : SqT K H S1 (starts.map V.int)) (hS2 : SqT K H S2 (starts.map V.int)) (h48 : rows.length ≤ 48) (h16 : starts.length ≤ 16) : Two K H 3 (.ref fo) (.ref due) := by
  refine .tup (SqT.of h1) (SqT.of h2) rfl (by show 2 ≤ sizeLine; decide) fun i x y hx hy => ?_
  rcases i with _ | _ | i
  · cases hx
    cases hy
    exact two_rows hR1 hR2 e1 e2 h48
  · cases hx
    cases hy
    exact .flatT hS1 hS2 (by rw [List.length_map]; exact Nat.le_trans h16 (by decide)) (ints_flat _)
  · simp at hx
theorem txt_same {rows rows' : List Rw} {starts starts' : List Int} {k k' : Int} (g : Good rows starts k) (g' : Good rows' starts' k') (e : ruleTx rows starts = ruleTx rows' starts') : rows = rows' ∧ starts = starts' := by
  generalize hp : PySem.Txt.partition (ruleTx rows starts) " | " = pt
  obtain ⟨body, bar, tail⟩ := pt
  obtain ⟨a1, a2, _⟩ := cells_good g hp
  rw [e] at hp
  obtain ⟨b1, b2, _⟩ := cells_good g' hp
  exact ⟨rows_inj (a1.symm.trans b1), ints_inj (a2.symm.trans b2)⟩
/-- how the law stands: the stream, the rows and the starts -/
structure LC (H : Hp) (sa sl R S : Addr) (refs : List V) (rows : List Rw) (starts : List Int) (n : Nat) : Prop where
  st : StreamAt H sa sl n
  hR : H R = some (.lst refs)
  eR : Each H isT refs rows
  hS : H S = some (.lst (starts.map V.int))
  ne : R ≠ sa ∧ R ≠ sl ∧ S ≠ sa ∧ S ≠ sl
section
variable {H H' : Hp} {sa sl R S : Addr} {refs : List V} {rows : List Rw} {starts : List Int} {n m : Nat}
theorem LC.kept (l : LC H sa sl R S refs rows starts n) (S' : StreamAt H' sa sl m) (k : Keep sa sl H H') : LC H' sa sl R S refs rows starts m :=
  ⟨S', k _ _ l.ne.1 l.ne.2.1 l.hR, l.eR.imp fun c r z => z.kp l.st k, k _ _ l.ne.2.2.1 l.ne.2.2.2 l.hS, l.ne⟩
theorem LC.same (l : LC H sa sl R S refs rows starts n) (s : Same H H') : LC H' sa sl R S refs rows starts n := l.kept (l.st.same s) (Keep.of s)
end
structure Prog (K : PySem.W.Frag) (w : World) (mg : Str → Option Value) (C X PE_ fI dd g1 g2 g3 g4 fS s1 s2 s3 r1 r2 fL fR pR fDraw fStart fPick fSame fTab fText fNum fRdg fChg fLong : Addr) (mc : Value) (dI gd1 gd2 gd3 gd4 dS sd1 sd2 sd3 rd1 rd2 dL dR dDraw dStart dPick dSame dTab dText dNum dRdg dChg dLong : FuncData) : Prop where
  G : ReadR K w mg C X PE_ fI dd g1 g2 g3 g4 fS s1 s2 s3 r1 r2 fL fR pR mc dI gd1 gd2 gd3 gd4 dS sd1 sd2 sd3 rd1 rd2 dL dR
  mx : mg "max" = none
  sh : PySem.W.nsIn K cStatics sharingNotToldKey = some none
  draw : Df K mg "_law_draw" sDraw fDraw dDraw ["_law_stream", "_law_many"]
  start : Df K mg "_law_start" sStart fStart dStart ["_law_script"]
  pick : Df K mg "_law_pick" sPick fPick dPick ["_law_stream", "_law_some"]
  same : Df K mg "_law_same" sSame fSame dSame ["_law_found", "_law_due"]
  tab : Df K mg "_law_m_table" sTable fTab dTab ["_law_stream", "_law_most", "_law_marks"]
  text : Df K mg "_law_m_text" sText fText dText ["_law_rows", "_law_starts"]
  num : Df K mg "_law_number" sNumber fNum dNum ["_law_piece"]
  rdg : Df K mg "_law_reading" sReading fRdg dRdg ["_law_text"]
  chg : Df K mg "_law_changed" sChanged fChg dChg ["_law_stream", "_law_text"]
  long : Df K mg "_law_longest" sLongest fLong dLong ["_law_stream"]
def spLaw (K : PySem.W.Frag) : Sp := fun vs H Q _ => ∃ (a : Addr) (ns : List Int), vs = [.ref a] ∧ SqL K H a (ns.map V.int) ∧ ns.length ≤ 63 ∧ ∀ H', Q (.bl true) H'
abbrev NLw : List Str := ["_law_script", "_law_stream", "_law_rows", "_law_starts", "_law_marks", "_law_turn", "_law_text", "_law_k", "_law_due", "_law_rule", "_law_found"]
section
variable {P : Program} {w : World} {K : PySem.W.Frag} {mg : Str → Option Value} {base : Heap}
theorem scLaw : FnScope NLw ["_law_script"] (defScope sLaw) := ⟨rfl, rfl, rfl, by decide +kernel, rfl, by decide +kernel, by decide +kernel⟩
theorem ok_law {f C X PE_ fI dd g1 g2 g3 g4 fS s1 s2 s3 r1 r2 fL fR pR fDraw fStart fPick fSame fTab fText fNum fRdg fChg fLong : Addr} {mc : Value} {fd dI gd1 gd2 gd3 gd4 dS sd1 sd2 sd3 rd1 rd2 dL dR dDraw dStart dPick dSame dTab dText dNum dRdg dChg dLong : FuncData} (F : Fun K "law" "law" sLaw f fd)
    (G : Prog K w mg C X PE_ fI dd g1 g2 g3 g4 fS s1 s2 s3 r1 r2 fL fR pR fDraw fStart fPick fSame fTab fText fNum fRdg fChg fLong mc dI gd1 gd2 gd3 gd4 dS sd1 sd2 sd3 rd1 rd2 dL dR dDraw dStart dPick dSame dTab dText dNum dRdg dChg dLong) : FnOk P w K mg base CX0 9 f fd ["_law_script"] (spLaw K) := by
  have RR := G.G
  have L := G.G.L
  have T := L.T
  have TX := L.TX
  have GR : FnOk P w K mg base (L2.CX P w) 7 fR dR ["text"] (spRead K C X) := ok_read RR.FR L
  have GDraw : FnOk P w K mg base CX0 1 fDraw dDraw ["_law_stream", "_law_many"] spDraw := ok_draw G.draw.F T
  have GStart : FnOk P w K mg base CX0 1 fStart dStart ["_law_script"] (spStart K) := ok_start G.start.F T
  have GSame : FnOk P w K mg base CX0 4 fSame dSame ["_law_found", "_law_due"] (spSame K 3) := ok_same G.same T 3
  have GTab : FnOk P w K mg base CX0 2 fTab dTab ["_law_stream", "_law_most", "_law_marks"] spTable := ok_table G.tab.F T G.draw
  have GText : FnOk P w K mg base CX0 1 fText dText ["_law_rows", "_law_starts"] spText := ok_text G.text.F T L.TS
  have GRdg : FnOk P w K mg base CX0 2 fRdg dRdg ["_law_text"] spReading := ok_reading G.rdg.F T L.TS G.num
  have GChg : FnOk P w K mg base CX0 3 fChg dChg ["_law_stream", "_law_text"] spChanged := ok_changed G.chg.F T G.mx G.sh G.draw G.pick
  have GLong : FnOk P w K mg base CX0 8 fLong dLong ["_law_stream"] spLongest := ok_longest G.long.F RR G.draw G.text
  refine F.ok scLaw (fun vs H Q E h => ?_) (fun cdv A outer s H vs Q E hr h => ?_)
  · obtain ⟨a, ns, rfl, _⟩ := h
    rfl
  · obtain ⟨a, ns, rfl, hS, hlen, kk⟩ := h
    have hr1 : Room 1 _ := hr.mono (by decide)
    have hr2 : Room 2 _ := hr.mono (by decide)
    have hr3 : Room 3 _ := hr.mono (by decide)
    have hr4 : Room 4 _ := hr.mono (by decide)
    have hr7 : Room 7 _ := hr.mono (by decide)
    refine ⟨_, pss_cons (ps_set (i := 1) scLaw.nd rfl (Or.inl rfl) (pe_call GStart hr1 rfl G.start.M G.start.F.kp G.start.B .nil pass0 (pa_cons (pv 0) pa_nil)))
      (pss_cut (ps_asg (pe_call GTab hr2 rfl G.tab.M G.tab.F.kp G.tab.B .nil pass0 (pa_cons (pv 1) (pa_cons (pe_ix ix_list (pe_lst (pa_cons pe_int (pa_cons pe_int pa_nil))) (pe_call GDraw hr1 rfl G.draw.M G.draw.F.kp G.draw.B .nil pass0 (pa_cons (pv 1) (pa_cons pe_int pa_nil))) (fun _ _ => rfl)) (pa_cons pe_int pa_nil)))) (pg_tup rfl (pgs_cons (pg_name (i := 2) scLaw.nd rfl (Or.inl rfl)) (pgs_cons (pg_name (i := 3) scLaw.nd rfl (Or.inl rfl)) (pgs_cons (pg_name (i := 4) scLaw.nd rfl (Or.inl rfl)) pgs_nil)))))
      (pss_cut (ps_if (pt_cmpR op_eq (pe_call GDraw hr1 rfl G.draw.M G.draw.F.kp G.draw.B .nil pass0 (pa_cons (pv 1) (pa_cons pe_int pa_nil))) pe_int (nomark _)) (pss_one (ps_par (i := 3) (j := 4) (by rfl) scLaw.nd rfl rfl (by decide) rfl rfl (pa_cons (pe_lst (pa_cons pe_int pa_nil)) (pa_cons pe_int pa_nil)) (by rfl))) pss_nil)
      (pss_cut (ps_for PassesOwn.never rfl (pi_range1 (by rfl) T.range_ (pa_cons pe_int pa_nil)) (pg_name (i := 5) scLaw.nd rfl (Or.inl rfl))
        (pss_cons (ps_set (i := 6) scLaw.nd rfl (Or.inl rfl) (pe_call GText hr1 rfl G.text.M G.text.F.kp G.text.B .nil pass0 (pa_cons (pv 2) (pa_cons (pv 3) pa_nil))))
        (pss_cut (ps_for PassesOwn.never rfl (pi_range1 (by rfl) T.range_ (pa_cons (pe_op op_add pe_int (pe_call GDraw hr1 rfl G.draw.M G.draw.F.kp G.draw.B .nil pass0 (pa_cons (pv 1) (pa_cons pe_int pa_nil)))) pa_nil)) (pg_name (i := 7) scLaw.nd rfl (Or.inl rfl))
          (pss_one (ps_set (i := 6) scLaw.nd rfl (Or.inl rfl) (pe_call GChg hr3 rfl G.chg.M G.chg.F.kp G.chg.B .nil pass0 (pa_cons (pv 1) (pa_cons (pv 6) pa_nil))))))
        (pss_cons (ps_set (i := 8) scLaw.nd rfl (Or.inl rfl) (pe_call GRdg hr2 rfl G.rdg.M G.rdg.F.kp G.rdg.B .nil pass0 (pa_cons (pv 6) pa_nil)))
        (pss_cut (ps_try_only (Wout := fun _ _ _ _ => False) rfl rfl ⟨by rfl, by decide, .inl TX.g⟩ takes0
            (fun W pn xe tk _ => pss_cons (ps_set (i := 9) scLaw.nd rfl (Or.inl rfl) (pe_smethS (E := WE W) (pl := _) (pe_glob (v := .ref C) rfl T.mgC rfl) RR.cr RR.sm GR hr7 RR.FR.kp RR.bR (fun σ => passAt tk σ) (pa_cons (pv 6) pa_nil)))
              (pss_one (ps_set (i := 10) scLaw.nd rfl (Or.inl rfl) (pe_tup (pa_cons (pe_fldF (K := K) rfl (pv 9) rfl) (pa_cons (pe_fldF (K := K) rfl (pv 9) rfl) pa_nil))))))
            (fun a oe cls d pn hz hf => pss_one (ps_set (i := 10) scLaw.nd rfl (Or.inl rfl) pe_non)))
        (pss_one (ps_if (PW.pt (pw_or (PW.pt (pw_and (pt_cmpR op_isN (pv 8) pe_non (nomark _)) (pw_and1 (pt_cmpR op_notN (pv 10) pe_non (nomark _))))) (pw_or1 (PW.pt (pw_and (pt_cmpR op_notN (pv 8) pe_non (nomark _)) (pw_and1 (pt_not (pt_val (pe_call GSame hr4 rfl G.same.M G.same.F.kp G.same.B .nil pass0 (pa_cons (pv 10) (pa_cons (pv 8) pa_nil))))))))))) pss_never pss_nil)))))))
      (pss_one (ps_ret (pe_and (pe_cmpR op_eq (pe_op op_mul (pv 4) (pv 4)) (pe_callB call_len_seq (by rfl) T.len_ PySem.boot_len (pa_cons (pv 3) pa_nil)) (nomark _)) (pe_one (pe_call GLong hr rfl G.long.M G.long.F.kp G.long.B .nil pass0 (pa_cons (pv 1) pa_nil))))))))), ?_⟩
    refine ⟨_, rfl, a, ns, rfl, hS, hlen, fun sa sl H1 S1 _ _ _ => ?_⟩
    -- the table
    refine ⟨fun σ' H' => ∃ R S refs rows starts k n, σ' = [some (.ref a), some (.ref sa), some (.ref R), some (.ref S), some (.int k), none, none, none, none, none, none] ∧ LC H' sa sl R S refs rows starts n ∧ n ≤ 400 ∧ Good rows starts k, ?_, ?_⟩
    · refine ⟨_, rfl, by show 2 ≤ sizeLine; decide, fun q hq => ⟨_, rfl, sa, sl, 0, 2, rfl, S1.same (new_ hq), by decide, by decide, sm48 (by decide) (by decide), fun r H2 r0 r1 S2 k2 => ?_⟩⟩
      obtain ⟨qa, ql⟩ := S1.ne hq
      obtain ⟨mo, hmo, mo1, mo48⟩ : ∃ m : Int, atI [V.int 3, V.int 14] r = some (.int m) ∧ 1 ≤ m ∧ m ≤ 48 := by
        have : r = 0 ∨ r = 1 := by omega
        rcases this with rfl | rfl
        · exact ⟨3, rfl, by decide, by decide⟩
        · exact ⟨14, rfl, by decide, by decide⟩
      refine ⟨q, _, r, _, rfl, rfl, SqL.of (k2 _ _ qa ql upd_same), hmo, sa, sl, 1, mo, 4, rfl, S2, by decide, mo1, mo48, by decide, by decide, fun tp R S refs rows starts k n' H3 htp hR hE hSt gd S3 hn3 k3 Ra Rl Sa Sl _ _ => ?_⟩
      exact ⟨tp, _, rfl, SqT.of htp, rfl, _, _, rfl, _, _, rfl, _, _, rfl, rfl, R, S, refs, rows, starts, k, n', rfl, ⟨S3, hR, hE, hSt, Ra, Rl, Sa, Sl⟩, by omega, gd⟩
    rintro _ H2 ⟨R, S, refs, rows, starts, k, n, rfl, lc, hn, gd⟩
    refine ⟨fun σ' H' => ∃ R S refs rows starts k n, σ' = [some (.ref a), some (.ref sa), some (.ref R), some (.ref S), some (.int k), none, none, none, none, none, none] ∧ LC H' sa sl R S refs rows starts n ∧ n ≤ 401 ∧ Good rows starts k, ?_, ?_⟩
    · refine ⟨_, rfl, sa, sl, n, 3, rfl, lc.st, by omega, by decide, sm48 (by decide) (by decide), fun r H3 r0 r1 S3 k3 => ⟨rfl, _, rfl, ifD_2 (fun _ => ?_) (fun _ => ?_)⟩⟩
      · have lc := lc.kept S3 k3
        refine ⟨by show 1 ≤ sizeLine; decide, fun q hq => ?_⟩
        have sq := new_ (o := .lst [V.int 0]) hq
        obtain ⟨qa, ql⟩ := S3.ne hq
        have lc := lc.same sq
        refine ⟨_, _, rfl, R, q, refs, rows, [0], 1, n + 1, rfl, ⟨lc.st, lc.hR, lc.eR, upd_same, lc.ne.1, lc.ne.2.1, qa, ql⟩, by omega, ⟨gd.one, gd.most, gd.ok, .r1, fun s hs => ?_⟩⟩
        rw [List.mem_singleton.mp hs]
        have := gd.one
        omega
      · exact ⟨R, S, refs, rows, starts, k, n + 1, rfl, lc.kept S3 k3, by omega, gd⟩
    clear lc gd
    rintro _ H3 ⟨R, S, refs, rows, starts, k, n, rfl, lc, hn, gd⟩
    have h48 := gd.most
    have htx := txt_le gd
    -- the turns
    refine ⟨fun σ' H' => ∃ n', (∃ x5 x6 x7 x8 x9 x10, σ' = [some (.ref a), some (.ref sa), some (.ref R), some (.ref S), some (.int k), x5, x6, x7, x8, x9, x10]) ∧ LC H' sa sl R S refs rows starts n' ∧ n' ≤ 1000, ?_, ?_⟩
    · refine ⟨5, rfl, by decide, by decide, ?_⟩
      refine for_range (n := 5) (fun i σ' H' => ∃ n', (∃ x5 x6 x7 x8 x9 x10, σ' = [some (.ref a), some (.ref sa), some (.ref R), some (.ref S), some (.int k), x5, x6, x7, x8, x9, x10]) ∧ LC H' sa sl R S refs rows starts n' ∧ n' ≤ 401 + 20 * i) ?_ ?_ ?_
      · exact ⟨n, ⟨_, _, _, _, _, _, rfl⟩, lc, by omega⟩
      · clear lc
        rintro i _ H' hi ⟨n6, ⟨x5, x6, x7, x8, x9, x10, rfl⟩, lc, hn6⟩
        refine ⟨_, rfl, _, rfl, R, S, refs, rows, starts, k, rfl, lc.hR, lc.eR, lc.hS, gd, fun H4 s4 => ?_⟩
        have lc := lc.same s4
        refine ⟨fun σ' H' => ∃ n', (∃ (x7 : Option V) (t : Str), σ' = [some (.ref a), some (.ref sa), some (.ref R), some (.ref S), some (.int k), some (.int (0 + (i : Int))), some (.str t), x7, x8, x9, x10] ∧ t.length ≤ 7100) ∧ LC H' sa sl R S refs rows starts n' ∧ n' ≤ n6 + 17, ?_, ?_⟩
        · refine ⟨_, rfl, sa, sl, n6, 3, rfl, lc.st, by omega, by decide, sm48 (by decide) (by decide), fun r HD r0 r1 SD kD => ⟨_, _, rfl, rfl, ?_⟩⟩
          have lc := lc.kept SD kD
          refine ⟨_, rfl, by omega, by omega, ?_⟩
          refine for_range (n := (1 + r).toNat) (fun j σ' H' => ∃ n', (∃ (x7 : Option V) (t : Str), σ' = [some (.ref a), some (.ref sa), some (.ref R), some (.ref S), some (.int k), some (.int (0 + (i : Int))), some (.str t), x7, x8, x9, x10] ∧ t.length + 14 ≤ 884 * 2 ^ j) ∧ LC H' sa sl R S refs rows starts n' ∧ n' ≤ n6 + 1 + 5 * j) ?_ ?_ ?_
          · exact ⟨n6 + 1, ⟨_, _, rfl, by omega⟩, lc, by omega⟩
          · clear lc
            rintro j _ H' hj ⟨n7, ⟨x7, t, rfl, ht⟩, lc, hn7⟩
            have hj3 : j ≤ 2 := by omega
            have h4 : t.length ≤ 3900 := by
              have : j = 0 ∨ j = 1 ∨ j = 2 := by omega
              rcases this with rfl | rfl | rfl <;> omega
            refine ⟨_, rfl, _, rfl, sa, sl, n7, t, rfl, lc.st, by omega, h4, fun t' n8 HE ht' SE hn8 kE => ?_⟩
            refine ⟨n8, ⟨_, t', rfl, ?_⟩, lc.kept SE kE, by omega⟩
            rw [Nat.pow_succ]
            omega
          · rintro _ H' ⟨n7, ⟨x7, t, rfl, ht⟩, lc, hn7⟩
            refine ⟨n7, ⟨_, t, rfl, ?_⟩, lc, by omega⟩
            have h3 : (1 + r).toNat ≤ 3 := by omega
            have : (2 : Nat) ^ (1 + r).toNat ≤ 2 ^ 3 := Nat.pow_le_pow_right (by decide) h3
            omega
        clear lc
        rintro _ H5 ⟨n7, ⟨x7, t, rfl, ht⟩, lc, hn7⟩
        -- both readings
        refine ⟨_, rfl, t, rfl, by omega, fun rows' starts' k' g' e' p' R' S' refs' H6 s6 hp' hR' hE' hS' => ?_, fun no H6 s6 => ?_⟩
        · have lc := lc.same s6
          refine ⟨fun σ' H' => ∃ p9 fo R1 S1 refs1, σ' = [some (.ref a), some (.ref sa), some (.ref R), some (.ref S), some (.int k), some (.int (0 + (i : Int))), some (.str t), x7, some (.ref p'), p9, some (.ref fo)] ∧ Same H6 H' ∧ H' fo = some (.tup [.ref R1, .ref S1]) ∧ H' R1 = some (.tup refs1) ∧ Each H' isT refs1 rows' ∧ SqT K H' S1 (starts'.map V.int), ?_, ?_⟩
          · refine ⟨rfl, _, rfl, t, rfl, by omega, fun rows2 starts2 k2 g2 e2 p2 H7 s7 hp2 r2 => ?_, fun no => absurd ⟨rows', starts', k', g', e'⟩ no⟩
            obtain ⟨er, es⟩ : rows2 = rows' ∧ starts2 = starts' := by
              exact txt_same g2 g' (e2.symm.trans e')
            subst er
            subst es
            obtain ⟨dx, R1, S1, refs1, hpx, hR1, hE1, hS1⟩ := id r2
            refine ⟨_, rfl, p2, C, dx, _, _, rfl, hpx, T.cl, T.nR, rf_rows _ _ _, _, rfl, p2, C, dx, _, _, rfl, hpx, T.cl, T.nS, rf_starts _ _ _, by show 2 ≤ sizeLine; decide, fun fo hfo => ?_⟩
            have s8 := new_ (o := .tup [V.ref R1, V.ref S1]) hfo
            exact ⟨_, fo, R1, S1, refs1, rfl, s7.trans s8, upd_same, s8 _ _ hR1, hE1.imp fun c r z => s8 _ _ z, SqT.up hS1 s8⟩
          rintro _ H8 ⟨p9, fo, R1, S1, refs1, rfl, s8, hfo, hR1, hE1, hS1⟩
          have lc := lc.same s8
          refine ⟨_, rfl, rfl, _, rfl, iteF (iteF ?_)⟩
          refine ⟨_, rfl, rfl, _, rfl, iteT ?_⟩
          refine ⟨_, rfl, _, rfl, _, _, rfl, two_found hfo (s8 _ _ hp') hR1 (s8 _ _ hR') hE1 (hE'.imp fun c r z => s8 _ _ z) hS1 (SqT.of (s8 _ _ hS')) g'.most (gd48 g').2.2.1, fun H9 s9 => ⟨_, rfl, iteF ?_⟩⟩
          exact ⟨n7, ⟨_, _, _, _, _, _, rfl⟩, lc.same s9, by omega⟩
        · have lc := lc.same s6
          refine ⟨fun σ' H' => ∃ p9, σ' = [some (.ref a), some (.ref sa), some (.ref R), some (.ref S), some (.int k), some (.int (0 + (i : Int))), some (.str t), x7, some .non, p9, some .non] ∧ Same H6 H', ?_, ?_⟩
          · refine ⟨rfl, _, rfl, t, rfl, by omega, fun rows2 starts2 k2 g2 e2 => absurd ⟨rows2, starts2, k2, g2, e2⟩ no, fun _ H7 s7 => ⟨true, TX.ex, fun _ a' ha' => ⟨_, rfl, s7⟩, fun q => Bool.noConfusion q⟩⟩
          rintro _ H8 ⟨p9, rfl, s8⟩
          have lc := lc.same s8
          refine ⟨_, rfl, rfl, _, rfl, iteT ?_⟩
          refine ⟨_, rfl, rfl, _, rfl, iteF ?_⟩
          refine ⟨_, rfl, rfl, _, rfl, iteF ?_⟩
          exact ⟨n7, ⟨_, _, _, _, _, _, rfl⟩, lc, by omega⟩
      · rintro _ H' ⟨n', hσ, lc, hn'⟩
        exact ⟨n', hσ, lc, by omega⟩
    rintro _ H4 ⟨n4, ⟨x5, x6, x7, x8, x9, x10, rfl⟩, lc, hn4⟩
    have hkk : k * k = ((starts.length : Nat) : Int) := by
      have := gd.root
      generalize (starts.length : Int) = z at this ⊢
      cases this <;> rfl
    have hk4 : 1 ≤ k ∧ k ≤ 4 := by
      have := gd.root
      generalize (starts.length : Int) = z at this
      cases this <;> decide
    refine ⟨_, rfl, _, rfl, _, _, rfl, rfl, .inl ⟨by omega, by omega⟩, _, rfl, S, _, rfl, .inl (SqL.of lc.hS), rfl, _, rfl, ?_⟩
    rw [decide_eq_true (show V.int (k * k) = V.int (((starts.map V.int).length : Nat) : Int) by rw [hkk, List.length_map])]
    exact iteT ⟨_, rfl, sa, sl, n4, rfl, lc.st, by omega, fun H' => kk H'⟩
end
end PA

set_option maxHeartbeats 8000000
namespace PA
open PySem L2 RZ
theorem kit_self {K : PySem.W.Frag} {C : Addr} : PySem.W.kitOne K (.ref C) (.ref C) = some true := by
  unfold PySem.W.kitOne
  rw [if_pos (by simp)]
theorem kit_2 {K : PySem.W.Frag} {C D : Addr} (h1 : (Value.ref D == Value.ref C) = false) (h2 : PySem.W.isClsIn K C = true) (h3 : PySem.W.typeIn K (.ref C) = some (.type "type")) (h4 : PySem.W.subIn K (.ref D) (.ref C) = some false) : PySem.W.kitOne K (.ref D) (.ref C) = some false := by
  have e2 : ((PySem.W.clsIn K C).isSome && PySem.W.typeIn K (.ref C) == some (.type "type")) = true := by
    have h2' : (PySem.W.clsIn K C).isSome = true := h2
    rw [h2', h3] <;> rfl
  unfold PySem.W.kitOne
  rw [h1, if_neg (by simp)]
  show (if ((PySem.W.clsIn K C).isSome && PySem.W.typeIn K (.ref C) == some (.type "type")) = true then PySem.W.subIn K (.ref D) (.ref C) else none) = some false
  rw [if_pos e2]
  exact h4
theorem exm_2 {K : PySem.W.Frag} {S P : Addr} (h1 : PySem.W.subIn K (.ref P) (.type "BaseException") = some true) (h2 : PySem.W.isClsIn K P = true) (h3 : PySem.W.typeIn K (.ref P) = some (.type "type")) (h4 : PySem.W.subIn K (.ref S) (.ref P) = some true) :
    PySem.W.exmOne K (.ref S) (.ref P) = some true := by
  have e2 : ((PySem.W.clsIn K P).isSome && PySem.W.typeIn K (.ref P) == some (.type "type")) = true := by
    have h2' : (PySem.W.clsIn K P).isSome = true := h2
    rw [h2', h3] <;> rfl
  unfold PySem.W.exmOne
  rw [h1, if_pos (by simp)]
  show (if ((PySem.W.clsIn K P).isSome && PySem.W.typeIn K (.ref P) == some (.type "type")) = true then PySem.W.subIn K (.ref S) (.ref P) else none) = some true
  rw [if_pos e2]
  exact h4
theorem kit_cls {K : PySem.W.Frag} {C : Addr} {t : String} (h2 : PySem.W.isClsIn K C = true) (h3 : PySem.W.typeIn K (.ref C) = some (.type "type")) (h4 : PySem.W.subIn K (.type t) (.ref C) = some false) : PySem.W.kitOne K (.type t) (.ref C) = some false := by
  have e2 : ((PySem.W.clsIn K C).isSome && PySem.W.typeIn K (.ref C) == some (.type "type")) = true := by
    have h2' : (PySem.W.clsIn K C).isSome = true := h2
    rw [h2', h3] <;> rfl
  unfold PySem.W.kitOne
  rw [if_neg (by simp)]
  show (if ((PySem.W.clsIn K C).isSome && PySem.W.typeIn K (.ref C) == some (.type "type")) = true then PySem.W.subIn K (.type t) (.ref C) else none) = some false
  rw [if_pos e2]
  exact h4
theorem bI2_of {K : PySem.W.Frag} {f dd : Addr} {fd : FuncData} (F : FunI K f fd dd) : Binds K fd ["self", "rows", "starts"] [] := by
  obtain ⟨ds, hv, hb⟩ := F.binds1 (ps := ["self", "rows", "starts"]) 3 1 (by simp) rfl (fun T kV doc pm an cdv ct us its h1 h2 => match us, h1, its, h2 with | [_, _, _], _, [_], _ => ⟨_, rfl, rfl⟩)
  cases hv
  exact hb
theorem all_mk {l : PySem.W.OpenLaw} {w : World} {K : PySem.W.Frag} {h : Heap} {mg : Str → Option Value} {fa C TT DD gCI DM gStr gLen DP DF_ DG_ X P_ pR gRead gisInt gbelow gisRow gcheck growsTx growTx gstTx greadSt greadRow gdraw gstart gpick gsame gtable gtext gnum grdg gchg glong gLaw : Addr} (X_ : K.In h) (G : h.Ns mainGlobals mg) (hfa : mg "law" = some (.ref fa))
    {oT : Value} {odT : Option Addr} {mT : Nat} {slT : Array (Option Value)} {odD : Option Addr} {tkD : Tok} {mD : Nat} {slD : Array (Option Value)} {ocCI kVCI dcCI pmCI cdCI ctCI : Value} {odCI anCI : Option Addr} {slCI : Array (Option Value)} {x1 x2 x3 x4 y1 y2 y3 y4 : Tok} {nM_ : Nat} {tkM : Tok} {ocStr kVStr dcStr pmStr cdStr ctStr : Value} {odStr anStr : Option Addr} {slStr : Array (Option Value)} {ocLen kVLen dcLen pmLen cdLen ctLen : Value} {odLen anLen : Option Addr} {slLen : Array (Option Value)} {odP : Option Addr} {tkP : Tok} {mP : Nat} {slP : Array (Option Value)} {h1F_ h2F_ : Int} {t1F_ t2F_ : Tok} {nF_ : Nat} {h1G_ h2G_ : Int} {t1G_ t2G_ : Tok} {nG_ : Nat} {restR : List Value} {ocRead kVRead dcRead pmRead cdRead ctRead : Value} {odRead anRead : Option Addr} {slRead : Array (Option Value)} {ocisInt kVisInt dcisInt pmisInt cdisInt ctisInt : Value} {odisInt anisInt : Option Addr} {slisInt : Array (Option Value)} {ocbelow kVbelow dcbelow pmbelow cdbelow ctbelow : Value} {odbelow anbelow : Option Addr} {slbelow : Array (Option Value)} {ocisRow kVisRow dcisRow pmisRow cdisRow ctisRow : Value} {odisRow anisRow : Option Addr} {slisRow : Array (Option Value)} {occheck kVcheck dccheck pmcheck cdcheck ctcheck : Value} {odcheck ancheck : Option Addr} {slcheck : Array (Option Value)} {ocrowsTx kVrowsTx dcrowsTx pmrowsTx cdrowsTx ctrowsTx : Value} {odrowsTx anrowsTx : Option Addr} {slrowsTx : Array (Option Value)} {ocrowTx kVrowTx dcrowTx pmrowTx cdrowTx ctrowTx : Value} {odrowTx anrowTx : Option Addr} {slrowTx : Array (Option Value)} {ocstTx kVstTx dcstTx pmstTx cdstTx ctstTx : Value} {odstTx anstTx : Option Addr} {slstTx : Array (Option Value)} {ocreadSt kVreadSt dcreadSt pmreadSt cdreadSt ctreadSt : Value} {odreadSt anreadSt : Option Addr} {slreadSt : Array (Option Value)} {ocreadRow kVreadRow dcreadRow pmreadRow cdreadRow ctreadRow : Value} {odreadRow anreadRow : Option Addr} {slreadRow : Array (Option Value)} {ocdraw kVdraw dcdraw pmdraw cddraw ctdraw : Value} {oddraw andraw : Option Addr} {sldraw : Array (Option Value)} {ocstart kVstart dcstart pmstart cdstart ctstart : Value} {odstart anstart : Option Addr} {slstart : Array (Option Value)} {ocpick kVpick dcpick pmpick cdpick ctpick : Value} {odpick anpick : Option Addr} {slpick : Array (Option Value)} {ocsame kVsame dcsame pmsame cdsame ctsame : Value} {odsame ansame : Option Addr} {slsame : Array (Option Value)} {octable kVtable dctable pmtable cdtable cttable : Value} {odtable antable : Option Addr} {sltable : Array (Option Value)} {octext kVtext dctext pmtext cdtext cttext : Value} {odtext antext : Option Addr} {sltext : Array (Option Value)} {ocnum kVnum dcnum pmnum cdnum ctnum : Value} {odnum annum : Option Addr} {slnum : Array (Option Value)} {ocrdg kVrdg dcrdg pmrdg cdrdg ctrdg : Value} {odrdg anrdg : Option Addr} {slrdg : Array (Option Value)} {occhg kVchg dcchg pmchg cdchg ctchg : Value} {odchg anchg : Option Addr} {slchg : Array (Option Value)} {oclong kVlong dclong pmlong cdlong ctlong : Value} {odlong anlong : Option Addr} {sllong : Array (Option Value)} {ocLaw kVLaw dcLaw pmLaw cdLaw ctLaw : Value} {odLaw anLaw : Option Addr} {slLaw : Array (Option Value)}
    (aC : PySem.W.nsIn K mainGlobals "Rule" = some (some (.ref C)))
    (pgC : PySem.W.plainGet K C Str.empty = true)
    (hdC : PySem.W.hasDictIn K C = true)
    (poC : PySem.W.plainOver K C = true)
    (saC : PySem.W.findIn K (.ref C) "__setattr__" = some (some (.builtin "object.__setattr__")))
    (kcC : PySem.W.keepIn K (.ref C) = true)
    (mkC : PySem.W.makesIn K C = true)
    (nCrows : PySem.W.findIn K (.ref C) "rows" = some none)
    (nCstarts : PySem.W.findIn K (.ref C) "starts" = some none)
    (nCmarks : PySem.W.findIn K (.ref C) "marks" = some none)
    (aCI : PySem.W.findIn K (.ref C) "__init__" = some (some (.ref gCI)))
    (lCI : K.lookup gCI = some ⟨ocCI, odCI, .func (PySem.W.fnOf "__init__" "Rule.__init__" (defArgs sInit) (defBody sInit) (defScope sInit) (.ref TT) kVCI dcCI pmCI anCI cdCI ctCI), slCI⟩)
    (cCI : PySem.W.codeIn K cdCI "Rule.__init__" = true)
    (kCI : PySem.W.keepIn K (.ref gCI) = true)
    (iCI : PySem.W.isFn K (.ref gCI) = true)
    (lT : K.lookup TT = some ⟨oT, odT, .seq #[.ref DD] mT, slT⟩)
    (lD : K.lookup DD = some ⟨.type "tuple", odD, .seq #[.int 0 tkD] mD, slD⟩)
    (aM : PySem.W.nsIn K mainGlobals "MARKS_OF_STARTS" = some (some (.ref DM)))
    (lM : K.lookup DM = some ⟨.type "dict", none, .dict #[⟨1, .int 1 x1, .int 1 y1⟩, ⟨4, .int 4 x2, .int 2 y2⟩, ⟨9, .int 9 x3, .int 3 y3⟩, ⟨16, .int 16 x4, .int 4 y4⟩] nM_, #[]⟩)
    (lw : (DM == sysModules) = false)
    (aMost : PySem.W.nsIn K mainGlobals "MOST_ROWS" = some (some (.int 48 tkM)))
    (aStr : PySem.W.findIn K (.ref C) "__str__" = some (some (.ref gStr)))
    (lStr : K.lookup gStr = some ⟨ocStr, odStr, .func (PySem.W.fnOf "__str__" "Rule.__str__" (defArgs sStr) (defBody sStr) (defScope sStr) .none kVStr dcStr pmStr anStr cdStr ctStr), slStr⟩)
    (cStr : PySem.W.codeIn K cdStr "Rule.__str__" = true)
    (kStr : PySem.W.keepIn K (.ref gStr) = true)
    (iStr : PySem.W.isFn K (.ref gStr) = true)
    (aLen : PySem.W.findIn K (.ref C) "__len__" = some (some (.ref gLen)))
    (lLen : K.lookup gLen = some ⟨ocLen, odLen, .func (PySem.W.fnOf "__len__" "Rule.__len__" (defArgs sLen) (defBody sLen) (defScope sLen) .none kVLen dcLen pmLen anLen cdLen ctLen), slLen⟩)
    (cLen : PySem.W.codeIn K cdLen "Rule.__len__" = true)
    (kLen : PySem.W.keepIn K (.ref gLen) = true)
    (iLen : PySem.W.isFn K (.ref gLen) = true)
    (aP : PySem.W.nsIn K mainGlobals "PLAIN_STARTS" = some (some (.ref DP)))
    (lP : K.lookup DP = some ⟨.type "tuple", odP, .seq #[.int 0 tkP] mP, slP⟩)
    (aF_ : PySem.W.nsIn K mainGlobals "FALLS_OF_WORD" = some (some (.ref DF_)))
    (lF_ : K.lookup DF_ = some { cls := .type "dict", data := .dict #[⟨h1F_, .str "fall" t1F_, .bool true⟩, ⟨h2F_, .str "stay" t2F_, .bool false⟩] nF_ })
    (kF_ : PySem.W.KeysLit w.params (#[⟨h1F_, .str "fall" t1F_, .bool true⟩, ⟨h2F_, .str "stay" t2F_, .bool false⟩] : Array DictEntry).toList)
    (wF_ : (DF_ == sysModules) = false)
    (aG_ : PySem.W.nsIn K mainGlobals "GOES_OF_WORD" = some (some (.ref DG_)))
    (lG_ : K.lookup DG_ = some { cls := .type "dict", data := .dict #[⟨h1G_, .str "go" t1G_, .bool true⟩, ⟨h2G_, .str "stay" t2G_, .bool false⟩] nG_ })
    (kG_ : PySem.W.KeysLit w.params (#[⟨h1G_, .str "go" t1G_, .bool true⟩, ⟨h2G_, .str "stay" t2G_, .bool false⟩] : Array DictEntry).toList)
    (wG_ : (DG_ == sysModules) = false)
    (aX : PySem.W.nsIn K mainGlobals "InvalidRule" = some (some (.ref X)))
    (xX : PySem.W.excIn K X [.type "ValueError", .type "Exception", .type "BaseException", .type "object"] "ValueError.__new__" = true)
    (kX : PySem.W.keepIn K (.ref X) = true)
    (bX : PySem.W.subIn K (.ref X) (.type "BaseException") = some true)
    (tX : PySem.W.typeIn K (.ref X) = some (.type "type"))
    (isX : PySem.W.isClsIn K X = true)
    (aP_ : PySem.W.nsIn K mainGlobals "PairError" = some (some (.ref P_)))
    (bP_ : PySem.W.subIn K (.ref P_) (.type "BaseException") = some true)
    (tP_ : PySem.W.typeIn K (.ref P_) = some (.type "type"))
    (isP_ : PySem.W.isClsIn K P_ = true)
    (sXP_ : PySem.W.subIn K (.ref X) (.ref P_) = some true)
    (sXX : PySem.W.subIn K (.ref X) (.ref X) = some true)
    (shK : PySem.W.nsIn K cStatics sharingNotToldKey = some none)
    (crd : PySem.W.readsIn K C (.type "type") = true)
    (cga : PySem.W.specialIn K (.ref C) "__getattribute__" = some (some (.builtin "type.__getattribute__")))
    (cfi : PySem.W.findCls K (.ref C) (.type "type") "read" = some (.get (.builtin "staticmethod.__get__") (.ref pR) .none (.ref C)))
    (aRead : PySem.W.recIn K pR "staticmethod" = some (.ref gRead :: restR))
    (lRead : K.lookup gRead = some ⟨ocRead, odRead, .func (PySem.W.fnOf "read" "Rule.read" (defArgs sRead) (defBody sRead) (defScope sRead) .none kVRead dcRead pmRead anRead cdRead ctRead), slRead⟩)
    (cRead : PySem.W.codeIn K cdRead "Rule.read" = true)
    (kRead : PySem.W.keepIn K (.ref gRead) = true)
    (chi : PySem.W.handedIn (.ref gRead) = true)
    (zisinstance : PySem.W.nsIn K mainGlobals "isinstance" = some none)
    (zint : PySem.W.nsIn K mainGlobals "int" = some none)
    (zbool : PySem.W.nsIn K mainGlobals "bool" = some none)
    (zlist : PySem.W.nsIn K mainGlobals "list" = some none)
    (ztuple : PySem.W.nsIn K mainGlobals "tuple" = some none)
    (zlen : PySem.W.nsIn K mainGlobals "len" = some none)
    (zall : PySem.W.nsIn K mainGlobals "all" = some none)
    (zzip : PySem.W.nsIn K mainGlobals "zip" = some none)
    (zrange : PySem.W.nsIn K mainGlobals "range" = some none)
    (zstr : PySem.W.nsIn K mainGlobals "str" = some none)
    (zmax : PySem.W.nsIn K mainGlobals "max" = some none)
    (aisInt : PySem.W.nsIn K mainGlobals "is_integer" = some (some (.ref gisInt)))
    (lisInt : K.lookup gisInt = some ⟨ocisInt, odisInt, .func (PySem.W.fnOf "is_integer" "is_integer" (defArgs sIsInt) (defBody sIsInt) (defScope sIsInt) .none kVisInt dcisInt pmisInt anisInt cdisInt ctisInt), slisInt⟩)
    (cisInt : PySem.W.codeIn K cdisInt "is_integer" = true)
    (kisInt : PySem.W.keepIn K (.ref gisInt) = true)
    (abelow : PySem.W.nsIn K mainGlobals "is_below" = some (some (.ref gbelow)))
    (lbelow : K.lookup gbelow = some ⟨ocbelow, odbelow, .func (PySem.W.fnOf "is_below" "is_below" (defArgs sBelow) (defBody sBelow) (defScope sBelow) .none kVbelow dcbelow pmbelow anbelow cdbelow ctbelow), slbelow⟩)
    (cbelow : PySem.W.codeIn K cdbelow "is_below" = true)
    (kbelow : PySem.W.keepIn K (.ref gbelow) = true)
    (aisRow : PySem.W.nsIn K mainGlobals "_is_row" = some (some (.ref gisRow)))
    (lisRow : K.lookup gisRow = some ⟨ocisRow, odisRow, .func (PySem.W.fnOf "_is_row" "_is_row" (defArgs sIsRow) (defBody sIsRow) (defScope sIsRow) .none kVisRow dcisRow pmisRow anisRow cdisRow ctisRow), slisRow⟩)
    (cisRow : PySem.W.codeIn K cdisRow "_is_row" = true)
    (kisRow : PySem.W.keepIn K (.ref gisRow) = true)
    (acheck : PySem.W.nsIn K mainGlobals "_check_table" = some (some (.ref gcheck)))
    (lcheck : K.lookup gcheck = some ⟨occheck, odcheck, .func (PySem.W.fnOf "_check_table" "_check_table" (defArgs sCheck) (defBody sCheck) (defScope sCheck) .none kVcheck dccheck pmcheck ancheck cdcheck ctcheck), slcheck⟩)
    (ccheck : PySem.W.codeIn K cdcheck "_check_table" = true)
    (kcheck : PySem.W.keepIn K (.ref gcheck) = true)
    (arowsTx : PySem.W.nsIn K mainGlobals "_rows_text" = some (some (.ref growsTx)))
    (lrowsTx : K.lookup growsTx = some ⟨ocrowsTx, odrowsTx, .func (PySem.W.fnOf "_rows_text" "_rows_text" (defArgs sRowsTx) (defBody sRowsTx) (defScope sRowsTx) .none kVrowsTx dcrowsTx pmrowsTx anrowsTx cdrowsTx ctrowsTx), slrowsTx⟩)
    (crowsTx : PySem.W.codeIn K cdrowsTx "_rows_text" = true)
    (krowsTx : PySem.W.keepIn K (.ref growsTx) = true)
    (arowTx : PySem.W.nsIn K mainGlobals "_row_text" = some (some (.ref growTx)))
    (lrowTx : K.lookup growTx = some ⟨ocrowTx, odrowTx, .func (PySem.W.fnOf "_row_text" "_row_text" (defArgs sRowTx) (defBody sRowTx) (defScope sRowTx) .none kVrowTx dcrowTx pmrowTx anrowTx cdrowTx ctrowTx), slrowTx⟩)
    (crowTx : PySem.W.codeIn K cdrowTx "_row_text" = true)
    (krowTx : PySem.W.keepIn K (.ref growTx) = true)
    (astTx : PySem.W.nsIn K mainGlobals "_starts_text" = some (some (.ref gstTx)))
    (lstTx : K.lookup gstTx = some ⟨ocstTx, odstTx, .func (PySem.W.fnOf "_starts_text" "_starts_text" (defArgs sStartsTx) (defBody sStartsTx) (defScope sStartsTx) .none kVstTx dcstTx pmstTx anstTx cdstTx ctstTx), slstTx⟩)
    (cstTx : PySem.W.codeIn K cdstTx "_starts_text" = true)
    (kstTx : PySem.W.keepIn K (.ref gstTx) = true)
    (areadSt : PySem.W.nsIn K mainGlobals "read_state" = some (some (.ref greadSt)))
    (lreadSt : K.lookup greadSt = some ⟨ocreadSt, odreadSt, .func (PySem.W.fnOf "read_state" "read_state" (defArgs sReadSt) (defBody sReadSt) (defScope sReadSt) .none kVreadSt dcreadSt pmreadSt anreadSt cdreadSt ctreadSt), slreadSt⟩)
    (creadSt : PySem.W.codeIn K cdreadSt "read_state" = true)
    (kreadSt : PySem.W.keepIn K (.ref greadSt) = true)
    (areadRow : PySem.W.nsIn K mainGlobals "_read_row" = some (some (.ref greadRow)))
    (lreadRow : K.lookup greadRow = some ⟨ocreadRow, odreadRow, .func (PySem.W.fnOf "_read_row" "_read_row" (defArgs sReadRow) (defBody sReadRow) (defScope sReadRow) .none kVreadRow dcreadRow pmreadRow anreadRow cdreadRow ctreadRow), slreadRow⟩)
    (creadRow : PySem.W.codeIn K cdreadRow "_read_row" = true)
    (kreadRow : PySem.W.keepIn K (.ref greadRow) = true)
    (adraw : PySem.W.nsIn K mainGlobals "_law_draw" = some (some (.ref gdraw)))
    (ldraw : K.lookup gdraw = some ⟨ocdraw, oddraw, .func (PySem.W.fnOf "_law_draw" "_law_draw" (defArgs sDraw) (defBody sDraw) (defScope sDraw) .none kVdraw dcdraw pmdraw andraw cddraw ctdraw), sldraw⟩)
    (cdraw : PySem.W.codeIn K cddraw "_law_draw" = true)
    (kdraw : PySem.W.keepIn K (.ref gdraw) = true)
    (astart : PySem.W.nsIn K mainGlobals "_law_start" = some (some (.ref gstart)))
    (lstart : K.lookup gstart = some ⟨ocstart, odstart, .func (PySem.W.fnOf "_law_start" "_law_start" (defArgs sStart) (defBody sStart) (defScope sStart) .none kVstart dcstart pmstart anstart cdstart ctstart), slstart⟩)
    (cstart : PySem.W.codeIn K cdstart "_law_start" = true)
    (kstart : PySem.W.keepIn K (.ref gstart) = true)
    (apick : PySem.W.nsIn K mainGlobals "_law_pick" = some (some (.ref gpick)))
    (lpick : K.lookup gpick = some ⟨ocpick, odpick, .func (PySem.W.fnOf "_law_pick" "_law_pick" (defArgs sPick) (defBody sPick) (defScope sPick) .none kVpick dcpick pmpick anpick cdpick ctpick), slpick⟩)
    (cpick : PySem.W.codeIn K cdpick "_law_pick" = true)
    (kpick : PySem.W.keepIn K (.ref gpick) = true)
    (asame : PySem.W.nsIn K mainGlobals "_law_same" = some (some (.ref gsame)))
    (lsame : K.lookup gsame = some ⟨ocsame, odsame, .func (PySem.W.fnOf "_law_same" "_law_same" (defArgs sSame) (defBody sSame) (defScope sSame) .none kVsame dcsame pmsame ansame cdsame ctsame), slsame⟩)
    (csame : PySem.W.codeIn K cdsame "_law_same" = true)
    (ksame : PySem.W.keepIn K (.ref gsame) = true)
    (atable : PySem.W.nsIn K mainGlobals "_law_m_table" = some (some (.ref gtable)))
    (ltable : K.lookup gtable = some ⟨octable, odtable, .func (PySem.W.fnOf "_law_m_table" "_law_m_table" (defArgs sTable) (defBody sTable) (defScope sTable) .none kVtable dctable pmtable antable cdtable cttable), sltable⟩)
    (ctable : PySem.W.codeIn K cdtable "_law_m_table" = true)
    (ktable : PySem.W.keepIn K (.ref gtable) = true)
    (atext : PySem.W.nsIn K mainGlobals "_law_m_text" = some (some (.ref gtext)))
    (ltext : K.lookup gtext = some ⟨octext, odtext, .func (PySem.W.fnOf "_law_m_text" "_law_m_text" (defArgs sText) (defBody sText) (defScope sText) .none kVtext dctext pmtext antext cdtext cttext), sltext⟩)
    (ctext : PySem.W.codeIn K cdtext "_law_m_text" = true)
    (ktext : PySem.W.keepIn K (.ref gtext) = true)
    (anum : PySem.W.nsIn K mainGlobals "_law_number" = some (some (.ref gnum)))
    (lnum : K.lookup gnum = some ⟨ocnum, odnum, .func (PySem.W.fnOf "_law_number" "_law_number" (defArgs sNumber) (defBody sNumber) (defScope sNumber) .none kVnum dcnum pmnum annum cdnum ctnum), slnum⟩)
    (cnum : PySem.W.codeIn K cdnum "_law_number" = true)
    (knum : PySem.W.keepIn K (.ref gnum) = true)
    (ardg : PySem.W.nsIn K mainGlobals "_law_reading" = some (some (.ref grdg)))
    (lrdg : K.lookup grdg = some ⟨ocrdg, odrdg, .func (PySem.W.fnOf "_law_reading" "_law_reading" (defArgs sReading) (defBody sReading) (defScope sReading) .none kVrdg dcrdg pmrdg anrdg cdrdg ctrdg), slrdg⟩)
    (crdg : PySem.W.codeIn K cdrdg "_law_reading" = true)
    (krdg : PySem.W.keepIn K (.ref grdg) = true)
    (achg : PySem.W.nsIn K mainGlobals "_law_changed" = some (some (.ref gchg)))
    (lchg : K.lookup gchg = some ⟨occhg, odchg, .func (PySem.W.fnOf "_law_changed" "_law_changed" (defArgs sChanged) (defBody sChanged) (defScope sChanged) .none kVchg dcchg pmchg anchg cdchg ctchg), slchg⟩)
    (cchg : PySem.W.codeIn K cdchg "_law_changed" = true)
    (kchg : PySem.W.keepIn K (.ref gchg) = true)
    (along : PySem.W.nsIn K mainGlobals "_law_longest" = some (some (.ref glong)))
    (llong : K.lookup glong = some ⟨oclong, odlong, .func (PySem.W.fnOf "_law_longest" "_law_longest" (defArgs sLongest) (defBody sLongest) (defScope sLongest) .none kVlong dclong pmlong anlong cdlong ctlong), sllong⟩)
    (clong : PySem.W.codeIn K cdlong "_law_longest" = true)
    (klong : PySem.W.keepIn K (.ref glong) = true)
    (aLaw : PySem.W.nsIn K mainGlobals "law" = some (some (.ref gLaw)))
    (lLaw : K.lookup gLaw = some ⟨ocLaw, odLaw, .func (PySem.W.fnOf "law" "law" (defArgs sLaw) (defBody sLaw) (defScope sLaw) .none kVLaw dcLaw pmLaw anLaw cdLaw ctLaw), slLaw⟩)
    (cLaw : PySem.W.codeIn K cdLaw "law" = true)
    (kLaw : PySem.W.keepIn K (.ref gLaw) = true) :
    ∃ fd : FuncData, (∀ (s : Shared) (v : Value), BindsTo s fd ⟨[v], []⟩ [("_law_script", v)]) ∧ ∀ base : Heap, K.In base → base.Ns mainGlobals mg → FnOk l.prog w K mg base CX0 9 fa fd ["_law_script"] (spLaw K) := by
  have e := hfa.symm.trans (PySem.W.mg_of X_ G aLaw)
  cases e
  have FCI : FunI K gCI (PySem.W.fnOf "__init__" "Rule.__init__" (defArgs sInit) (defBody sInit) (defScope sInit) (.ref TT) kVCI dcCI pmCI anCI cdCI ctCI) DD := ⟨⟨_, _, _, _, _, _, _, _, _, _, rfl, lCI, cCI, .inr ⟨by simp, TT, _, [.ref DD], mT, rfl, lT, rfl, .cons rfl .nil⟩, .inl rfl⟩, kCI⟩
  have b1I := FCI.binds1 (ps := ["self", "rows", "starts"]) 2 0 (by simp) rfl (fun T kV doc pm an cdv ct us its h1 h2 => match us, h1, its, h2 with | [_, _], _, [_], _ => ⟨_, rfl, rfl⟩)
  have hdd : ∀ H, SqT K H DD [V.int 0] := fun H => .inr ⟨_, #[.int 0 tkD], mD, lD, rfl, rfl, (by show 1 ≤ sizeLine; decide), .cons ⟨tkD, rfl⟩ .nil⟩
  have FStr := fun_mk (st := sStr) lStr cStr kStr
  have bStr := FStr.binds (ps := ["self"]) fun _ _ _ _ _ _ us hl => match us, hl with | [_], _ => rfl
  have FLen := fun_mk (st := sLen) lLen cLen kLen
  have bLen := FLen.binds (ps := ["self"]) fun _ _ _ _ _ _ us hl => match us, hl with | [_], _ => rfl
  have hdp : ∀ H, SqT K H DP [V.int 0] := fun H => .inr ⟨_, #[.int 0 tkP], mP, lP, rfl, rfl, (by show 1 ≤ sizeLine; decide), .cons ⟨tkP, rfl⟩ .nil⟩
  have FRead := fun_mk (st := sRead) lRead cRead kRead
  have bRead := FRead.binds (ps := ["text"]) fun _ _ _ _ _ _ us hl => match us, hl with | [_], _ => rfl
  have FisInt := fun_mk (st := sIsInt) lisInt cisInt kisInt
  have bisInt := FisInt.binds (ps := ["value"]) fun _ _ _ _ _ _ us hl => match us, hl with | [_], _ => rfl
  have Fbelow := fun_mk (st := sBelow) lbelow cbelow kbelow
  have bbelow := Fbelow.binds (ps := ["value", "count"]) fun _ _ _ _ _ _ us hl => match us, hl with | [_, _], _ => rfl
  have FisRow := fun_mk (st := sIsRow) lisRow cisRow kisRow
  have bisRow := FisRow.binds (ps := ["row", "count"]) fun _ _ _ _ _ _ us hl => match us, hl with | [_, _], _ => rfl
  have Fcheck := fun_mk (st := sCheck) lcheck ccheck kcheck
  have bcheck := Fcheck.binds (ps := ["rows", "starts"]) fun _ _ _ _ _ _ us hl => match us, hl with | [_, _], _ => rfl
  have FrowsTx := fun_mk (st := sRowsTx) lrowsTx crowsTx krowsTx
  have browsTx := FrowsTx.binds (ps := ["rows"]) fun _ _ _ _ _ _ us hl => match us, hl with | [_], _ => rfl
  have FrowTx := fun_mk (st := sRowTx) lrowTx crowTx krowTx
  have browTx := FrowTx.binds (ps := ["row"]) fun _ _ _ _ _ _ us hl => match us, hl with | [_], _ => rfl
  have FstTx := fun_mk (st := sStartsTx) lstTx cstTx kstTx
  have bstTx := FstTx.binds (ps := ["starts"]) fun _ _ _ _ _ _ us hl => match us, hl with | [_], _ => rfl
  have FreadSt := fun_mk (st := sReadSt) lreadSt creadSt kreadSt
  have breadSt := FreadSt.binds (ps := ["word"]) fun _ _ _ _ _ _ us hl => match us, hl with | [_], _ => rfl
  have FreadRow := fun_mk (st := sReadRow) lreadRow creadRow kreadRow
  have breadRow := FreadRow.binds (ps := ["piece"]) fun _ _ _ _ _ _ us hl => match us, hl with | [_], _ => rfl
  have Fdraw := fun_mk (st := sDraw) ldraw cdraw kdraw
  have bdraw := Fdraw.binds (ps := ["_law_stream", "_law_many"]) fun _ _ _ _ _ _ us hl => match us, hl with | [_, _], _ => rfl
  have Fstart := fun_mk (st := sStart) lstart cstart kstart
  have bstart := Fstart.binds (ps := ["_law_script"]) fun _ _ _ _ _ _ us hl => match us, hl with | [_], _ => rfl
  have Fpick := fun_mk (st := sPick) lpick cpick kpick
  have bpick := Fpick.binds (ps := ["_law_stream", "_law_some"]) fun _ _ _ _ _ _ us hl => match us, hl with | [_, _], _ => rfl
  have Fsame := fun_mk (st := sSame) lsame csame ksame
  have bsame := Fsame.binds (ps := ["_law_found", "_law_due"]) fun _ _ _ _ _ _ us hl => match us, hl with | [_, _], _ => rfl
  have Ftable := fun_mk (st := sTable) ltable ctable ktable
  have btable := Ftable.binds (ps := ["_law_stream", "_law_most", "_law_marks"]) fun _ _ _ _ _ _ us hl => match us, hl with | [_, _, _], _ => rfl
  have Ftext := fun_mk (st := sText) ltext ctext ktext
  have btext := Ftext.binds (ps := ["_law_rows", "_law_starts"]) fun _ _ _ _ _ _ us hl => match us, hl with | [_, _], _ => rfl
  have Fnum := fun_mk (st := sNumber) lnum cnum knum
  have bnum := Fnum.binds (ps := ["_law_piece"]) fun _ _ _ _ _ _ us hl => match us, hl with | [_], _ => rfl
  have Frdg := fun_mk (st := sReading) lrdg crdg krdg
  have brdg := Frdg.binds (ps := ["_law_text"]) fun _ _ _ _ _ _ us hl => match us, hl with | [_], _ => rfl
  have Fchg := fun_mk (st := sChanged) lchg cchg kchg
  have bchg := Fchg.binds (ps := ["_law_stream", "_law_text"]) fun _ _ _ _ _ _ us hl => match us, hl with | [_, _], _ => rfl
  have Flong := fun_mk (st := sLongest) llong clong klong
  have blong := Flong.binds (ps := ["_law_stream"]) fun _ _ _ _ _ _ us hl => match us, hl with | [_], _ => rfl
  have PR : Prog K w mg C X P_ gCI DD gisInt gbelow gisRow gcheck gStr growsTx growTx gstTx greadSt greadRow gLen gRead pR gdraw gstart gpick gsame gtable gtext gnum grdg gchg glong (.type "type") (PySem.W.fnOf "__init__" "Rule.__init__" (defArgs sInit) (defBody sInit) (defScope sInit) (.ref TT) kVCI dcCI pmCI anCI cdCI ctCI) (PySem.W.fnOf "is_integer" "is_integer" (defArgs sIsInt) (defBody sIsInt) (defScope sIsInt) .none kVisInt dcisInt pmisInt anisInt cdisInt ctisInt) (PySem.W.fnOf "is_below" "is_below" (defArgs sBelow) (defBody sBelow) (defScope sBelow) .none kVbelow dcbelow pmbelow anbelow cdbelow ctbelow) (PySem.W.fnOf "_is_row" "_is_row" (defArgs sIsRow) (defBody sIsRow) (defScope sIsRow) .none kVisRow dcisRow pmisRow anisRow cdisRow ctisRow) (PySem.W.fnOf "_check_table" "_check_table" (defArgs sCheck) (defBody sCheck) (defScope sCheck) .none kVcheck dccheck pmcheck ancheck cdcheck ctcheck) (PySem.W.fnOf "__str__" "Rule.__str__" (defArgs sStr) (defBody sStr) (defScope sStr) .none kVStr dcStr pmStr anStr cdStr ctStr) (PySem.W.fnOf "_rows_text" "_rows_text" (defArgs sRowsTx) (defBody sRowsTx) (defScope sRowsTx) .none kVrowsTx dcrowsTx pmrowsTx anrowsTx cdrowsTx ctrowsTx) (PySem.W.fnOf "_row_text" "_row_text" (defArgs sRowTx) (defBody sRowTx) (defScope sRowTx) .none kVrowTx dcrowTx pmrowTx anrowTx cdrowTx ctrowTx) (PySem.W.fnOf "_starts_text" "_starts_text" (defArgs sStartsTx) (defBody sStartsTx) (defScope sStartsTx) .none kVstTx dcstTx pmstTx anstTx cdstTx ctstTx) (PySem.W.fnOf "read_state" "read_state" (defArgs sReadSt) (defBody sReadSt) (defScope sReadSt) .none kVreadSt dcreadSt pmreadSt anreadSt cdreadSt ctreadSt) (PySem.W.fnOf "_read_row" "_read_row" (defArgs sReadRow) (defBody sReadRow) (defScope sReadRow) .none kVreadRow dcreadRow pmreadRow anreadRow cdreadRow ctreadRow) (PySem.W.fnOf "__len__" "Rule.__len__" (defArgs sLen) (defBody sLen) (defScope sLen) .none kVLen dcLen pmLen anLen cdLen ctLen) (PySem.W.fnOf "read" "Rule.read" (defArgs sRead) (defBody sRead) (defScope sRead) .none kVRead dcRead pmRead anRead cdRead ctRead) (PySem.W.fnOf "_law_draw" "_law_draw" (defArgs sDraw) (defBody sDraw) (defScope sDraw) .none kVdraw dcdraw pmdraw andraw cddraw ctdraw) (PySem.W.fnOf "_law_start" "_law_start" (defArgs sStart) (defBody sStart) (defScope sStart) .none kVstart dcstart pmstart anstart cdstart ctstart) (PySem.W.fnOf "_law_pick" "_law_pick" (defArgs sPick) (defBody sPick) (defScope sPick) .none kVpick dcpick pmpick anpick cdpick ctpick) (PySem.W.fnOf "_law_same" "_law_same" (defArgs sSame) (defBody sSame) (defScope sSame) .none kVsame dcsame pmsame ansame cdsame ctsame) (PySem.W.fnOf "_law_m_table" "_law_m_table" (defArgs sTable) (defBody sTable) (defScope sTable) .none kVtable dctable pmtable antable cdtable cttable) (PySem.W.fnOf "_law_m_text" "_law_m_text" (defArgs sText) (defBody sText) (defScope sText) .none kVtext dctext pmtext antext cdtext cttext) (PySem.W.fnOf "_law_number" "_law_number" (defArgs sNumber) (defBody sNumber) (defScope sNumber) .none kVnum dcnum pmnum annum cdnum ctnum) (PySem.W.fnOf "_law_reading" "_law_reading" (defArgs sReading) (defBody sReading) (defScope sReading) .none kVrdg dcrdg pmrdg anrdg cdrdg ctrdg) (PySem.W.fnOf "_law_changed" "_law_changed" (defArgs sChanged) (defBody sChanged) (defScope sChanged) .none kVchg dcchg pmchg anchg cdchg ctchg) (PySem.W.fnOf "_law_longest" "_law_longest" (defArgs sLongest) (defBody sLongest) (defScope sLongest) .none kVlong dclong pmlong anlong cdlong ctlong) := ⟨⟨⟨⟨⟨pgC, hdC, poC, saC⟩, nCrows, nCstarts, nCmarks, PySem.W.mg_of X_ G aC, PySem.W.mg_none_of X_ G zisinstance, PySem.W.mg_none_of X_ G zint, PySem.W.mg_none_of X_ G zbool, PySem.W.mg_none_of X_ G zlist, PySem.W.mg_none_of X_ G ztuple, PySem.W.mg_none_of X_ G zlen, PySem.W.mg_none_of X_ G zall, PySem.W.mg_none_of X_ G zzip, PySem.W.mg_none_of X_ G zrange, ⟨tkM, PySem.W.mg_of X_ G aMost⟩, ⟨DM, PySem.W.mg_of X_ G aM, ⟨⟨x1, x2, x3, x4, y1, y2, y3, y4, nM_, lM⟩, lw⟩⟩⟩, ⟨xX, PySem.W.mg_of X_ G aX, kX, bX, tX, PySem.W.mg_of X_ G aP_, exm_2 bP_ isP_ tP_ sXP_, exm_2 bX isX tX sXX⟩, ⟨PySem.W.mg_none_of X_ G zstr, ⟨DP, PySem.W.mg_of X_ G aP, hdp⟩⟩, ⟨⟨DF_, PySem.W.mg_of X_ G aF_, kget_words lF_ kF_ wF_⟩, ⟨DG_, PySem.W.mg_of X_ G aG_, kget_words lG_ kG_ wG_⟩⟩, FCI, ⟨mkC, aCI, iCI, kcC⟩, bI2_of FCI, ⟨FisInt, bisInt, PySem.W.mg_of X_ G aisInt⟩, ⟨Fbelow, bbelow, PySem.W.mg_of X_ G abelow⟩, ⟨FisRow, bisRow, PySem.W.mg_of X_ G aisRow⟩, ⟨Fcheck, bcheck, PySem.W.mg_of X_ G acheck⟩, FStr, bStr, ⟨aStr, iStr, kStr⟩, ⟨FrowsTx, browsTx, PySem.W.mg_of X_ G arowsTx⟩, ⟨FrowTx, browTx, PySem.W.mg_of X_ G arowTx⟩, ⟨FstTx, bstTx, PySem.W.mg_of X_ G astTx⟩, ⟨FreadSt, breadSt, PySem.W.mg_of X_ G areadSt⟩, ⟨FreadRow, breadRow, PySem.W.mg_of X_ G areadRow⟩⟩, FLen, bLen, aLen, iLen, FRead, bRead, ⟨crd, cga⟩, ⟨cfi, ⟨_, aRead⟩, chi⟩⟩, PySem.W.mg_none_of X_ G zmax, shK, ⟨Fdraw, bdraw, PySem.W.mg_of X_ G adraw⟩, ⟨Fstart, bstart, PySem.W.mg_of X_ G astart⟩, ⟨Fpick, bpick, PySem.W.mg_of X_ G apick⟩, ⟨Fsame, bsame, PySem.W.mg_of X_ G asame⟩, ⟨Ftable, btable, PySem.W.mg_of X_ G atable⟩, ⟨Ftext, btext, PySem.W.mg_of X_ G atext⟩, ⟨Fnum, bnum, PySem.W.mg_of X_ G anum⟩, ⟨Frdg, brdg, PySem.W.mg_of X_ G ardg⟩, ⟨Fchg, bchg, PySem.W.mg_of X_ G achg⟩, ⟨Flong, blong, PySem.W.mg_of X_ G along⟩⟩
  exact ⟨PySem.W.fnOf "law" "law" (defArgs sLaw) (defBody sLaw) (defScope sLaw) .none kVLaw dcLaw pmLaw anLaw cdLaw ctLaw, fun s v => .of_eq rfl, fun base _ _ => ok_law (fun_mk (st := sLaw) lLaw cLaw kLaw) PR⟩
theorem walk_ {l : PySem.W.OpenLaw} {q : Program} {loose : List Str} {XP : (Str → Option Value) → Heap → Prop} {YP : World → Heap → Prop} {d : DefRec} {K : Params → PySem.W.Frag} (hn : l.most = some 63) (hdf : d.params.defaults = [])
    (hY : ∀ (w : World) (h : Heap), YP w h → (K w.params).In h)
    (F : ∀ (w : World) (mg : Str → Option Value) (fa : Addr) (h : Heap), (K w.params).In h → h.Ns mainGlobals mg → mg d.name = some (.ref fa) →
      ∃ fd : FuncData, (∀ (s : Shared) (u : Value), BindsTo s fd ⟨[u], []⟩ [("_law_script", u)]) ∧ ∀ base : Heap, (K w.params).In base → base.Ns mainGlobals mg → FnOk l.prog w (K w.params) mg base CX0 9 fa fd ["_law_script"] (spLaw (K w.params))) :
    PySem.W.WalkO q loose XP YP l.row.toRowW d [] (fun f vs => PySem.call f vs) :=
  L2.walk_of (n := 63) (k := 9) (x := "_law_script") (CX := fun _ => CX0) (sp := fun w => spLaw (K w.params)) hn (by decide) hdf ⟨rfl, by decide, by decide⟩ hY F (fun _ _ a ns hl _ hS => ⟨a, ns, rfl, hS, hl, fun _ => rfl⟩) fun _ _ _ _ _ z => z
end PA

open PySem PySem.W PyProof.Rows
set_option maxRecDepth 100000 in
set_option maxHeartbeats 0 in
theorem PySem.Challenge.cw_pairahead_k07_rule_texts_refused_holds : PySem.Challenge.rw_pairahead_k07_rule_texts_refused.Holds := by
  w_on; o_law; k_head; (case hw => w_witness2)
  k_fill
  refine PA.walk_ (l := PySem.Challenge.rw_pairahead_k07_rule_texts_refused) rfl rfl (fun w h Y => PySem.W.kIn_of Y) ?F
  case F =>
    intro w mg fa h KX G hmg
    refine' PA.all_mk KX G hmg ?aC ?pgC ?hdC ?poC ?saC ?kcC ?mkC ?nCrows ?nCstarts ?nCmarks ?aCI ?lCI ?cCI ?kCI ?iCI ?lT ?lD ?aM ?lM ?lw ?aMost ?aStr ?lStr ?cStr ?kStr ?iStr ?aLen ?lLen ?cLen ?kLen ?iLen ?aP ?lP ?aF_ ?lF_ ?kF_ ?wF_ ?aG_ ?lG_ ?kG_ ?wG_ ?aX ?xX ?kX ?bX ?tX ?isX ?aP_ ?bP_ ?tP_ ?isP_ ?sXP_ ?sXX ?shK ?crd ?cga ?cfi ?aRead ?lRead ?cRead ?kRead ?chi ?zisinstance ?zint ?zbool ?zlist ?ztuple ?zlen ?zall ?zzip ?zrange ?zstr ?zmax ?aisInt ?lisInt ?cisInt ?kisInt ?abelow ?lbelow ?cbelow ?kbelow ?aisRow ?lisRow ?cisRow ?kisRow ?acheck ?lcheck ?ccheck ?kcheck ?arowsTx ?lrowsTx ?crowsTx ?krowsTx ?arowTx ?lrowTx ?crowTx ?krowTx ?astTx ?lstTx ?cstTx ?kstTx ?areadSt ?lreadSt ?creadSt ?kreadSt ?areadRow ?lreadRow ?creadRow ?kreadRow ?adraw ?ldraw ?cdraw ?kdraw ?astart ?lstart ?cstart ?kstart ?apick ?lpick ?cpick ?kpick ?asame ?lsame ?csame ?ksame ?atable ?ltable ?ctable ?ktable ?atext ?ltext ?ctext ?ktext ?anum ?lnum ?cnum ?knum ?ardg ?lrdg ?crdg ?krdg ?achg ?lchg ?cchg ?kchg ?along ?llong ?clong ?klong ?aLaw ?lLaw ?cLaw ?kLaw
    (case aC => k_is)
    (case pgC => k_is)
    (case hdC => k_is)
    (case poC => k_is)
    (case saC => k_is)
    (case kcC => k_is)
    (case mkC => k_is)
    (case nCrows => k_is)
    (case nCstarts => k_is)
    (case nCmarks => k_is)
    (case aCI => k_is)
    (case lCI => k_is)
    (case cCI => k_is)
    (case kCI => k_is)
    (case iCI => k_is)
    (case lT => k_is)
    (case lD => k_is)
    (case aM => k_is)
    (case lM => k_is)
    (case lw => first | rfl | decide | k_is)
    (case aMost => k_is)
    (case aStr => k_is)
    (case lStr => k_is)
    (case cStr => k_is)
    (case kStr => k_is)
    (case iStr => k_is)
    (case aLen => k_is)
    (case lLen => k_is)
    (case cLen => k_is)
    (case kLen => k_is)
    (case iLen => k_is)
    (case aP => k_is)
    (case lP => k_is)
    (case aF_ => k_is)
    (case lF_ => k_is)
    (case kF_ => first | exact And.intro (Exists.intro _ (Exists.intro _ (And.intro rfl rfl))) (And.intro (Exists.intro _ (Exists.intro _ (And.intro rfl rfl))) trivial) | exact ⟨⟨_, _, rfl, rfl⟩, ⟨_, _, rfl, rfl⟩, trivial⟩ | (simp only [PySem.W.KeysLit]; exact ⟨⟨_, _, rfl, rfl⟩, ⟨_, _, rfl, rfl⟩, trivial⟩) | (trace_state; k_is))
    (case wF_ => first | rfl | decide | k_is)
    (case aG_ => k_is)
    (case lG_ => k_is)
    (case kG_ => first | exact And.intro (Exists.intro _ (Exists.intro _ (And.intro rfl rfl))) (And.intro (Exists.intro _ (Exists.intro _ (And.intro rfl rfl))) trivial) | exact ⟨⟨_, _, rfl, rfl⟩, ⟨_, _, rfl, rfl⟩, trivial⟩ | (simp only [PySem.W.KeysLit]; exact ⟨⟨_, _, rfl, rfl⟩, ⟨_, _, rfl, rfl⟩, trivial⟩) | (trace_state; k_is))
    (case wG_ => first | rfl | decide | k_is)
    (case aX => k_is)
    (case xX => k_exc)
    (case kX => k_is)
    (case bX => k_is)
    (case tX => k_is)
    (case isX => k_is)
    (case aP_ => k_is)
    (case bP_ => k_is)
    (case tP_ => k_is)
    (case isP_ => k_is)
    (case sXP_ => first | rfl | k_is)
    (case sXX => first | rfl | k_is)
    (case shK => k_is)
    (case crd => k_is)
    (case cga => k_is)
    (case cfi => k_is)
    (case aRead => k_is)
    (case lRead => k_is)
    (case cRead => k_is)
    (case kRead => k_is)
    (case chi => first | rfl | decide | k_is)
    (case zisinstance => k_is)
    (case zint => k_is)
    (case zbool => k_is)
    (case zlist => k_is)
    (case ztuple => k_is)
    (case zlen => k_is)
    (case zall => k_is)
    (case zzip => k_is)
    (case zrange => k_is)
    (case zstr => k_is)
    (case zmax => k_is)
    (case aisInt => k_is)
    (case lisInt => k_is)
    (case cisInt => k_is)
    (case kisInt => k_is)
    (case abelow => k_is)
    (case lbelow => k_is)
    (case cbelow => k_is)
    (case kbelow => k_is)
    (case aisRow => k_is)
    (case lisRow => k_is)
    (case cisRow => k_is)
    (case kisRow => k_is)
    (case acheck => k_is)
    (case lcheck => k_is)
    (case ccheck => k_is)
    (case kcheck => k_is)
    (case arowsTx => k_is)
    (case lrowsTx => k_is)
    (case crowsTx => k_is)
    (case krowsTx => k_is)
    (case arowTx => k_is)
    (case lrowTx => k_is)
    (case crowTx => k_is)
    (case krowTx => k_is)
    (case astTx => k_is)
    (case lstTx => k_is)
    (case cstTx => k_is)
    (case kstTx => k_is)
    (case areadSt => k_is)
    (case lreadSt => k_is)
    (case creadSt => k_is)
    (case kreadSt => k_is)
    (case areadRow => k_is)
    (case lreadRow => k_is)
    (case creadRow => k_is)
    (case kreadRow => k_is)
    (case adraw => k_is)
    (case ldraw => k_is)
    (case cdraw => k_is)
    (case kdraw => k_is)
    (case astart => k_is)
    (case lstart => k_is)
    (case cstart => k_is)
    (case kstart => k_is)
    (case apick => k_is)
    (case lpick => k_is)
    (case cpick => k_is)
    (case kpick => k_is)
    (case asame => k_is)
    (case lsame => k_is)
    (case csame => k_is)
    (case ksame => k_is)
    (case atable => k_is)
    (case ltable => k_is)
    (case ctable => k_is)
    (case ktable => k_is)
    (case atext => k_is)
    (case ltext => k_is)
    (case ctext => k_is)
    (case ktext => k_is)
    (case anum => k_is)
    (case lnum => k_is)
    (case cnum => k_is)
    (case knum => k_is)
    (case ardg => k_is)
    (case lrdg => k_is)
    (case crdg => k_is)
    (case krdg => k_is)
    (case achg => k_is)
    (case lchg => k_is)
    (case cchg => k_is)
    (case kchg => k_is)
    (case along => k_is)
    (case llong => k_is)
    (case clong => k_is)
    (case klong => k_is)
    (case aLaw => k_is)
    (case lLaw => k_is)
    (case cLaw => k_is)
    (case kLaw => k_is)
#print axioms PySem.Challenge.cw_pairahead_k07_rule_texts_refused_holds
