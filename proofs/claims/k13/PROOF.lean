import PyProof.Rows.All
import Wide.All
import OpenK.AllK
import Wide.FinOn
import HandS.ForMost
import HandS.IsInst
import HandS.Zip
import HandS.Wide
import HandS.Codes
import HandS.Evl
import HandS.Conv
import HandS.Defaults
import HandS.MakeKw
import HandS.Walk
import HandS.TupAny
import HandS.Words
import HandS.WordsList
import HandS.ClsMeth
import HandS.OwnEq
import HandS.Gcd
import HandS.ExcBuiltin
import HandS.TryOnly
import HandS.ForExc
import HandS.FStr
import KE.KCallOwn
import PyProof.Conv_bool
import HandS.StrMore
import PySem.Challenge.RW_pairahead_k13_whole_marked_rules
import KE.KDictCopyH
import HandS.Base
import HandS.Call
import HandS.List
import HandS.Dict
import KE.GoesMore
import KE.GoesZip
import KE.GoesEnum
import HandS.TupLen
import HandS.Style
import HandS.Comp
import HandS.ExcIs
import HandS.WordsExc
set_option Elab.async false
set_option linter.all false
set_option maxRecDepth 100000
set_option maxHeartbeats 2000000
/-! what serves every row -/
namespace L2
open PySem PySem.Spec PyProof.Rows
theorem PI.or {X : Cx} {tg l : Expr} {w1 w2 : TI} (h1 : PI X tg l w1) (h2 : PI X tg l w2) : PI X tg l (fun σ H R => w1 σ H R ∨ w2 σ H R) :=
  ⟨fun pins s σ H R I h => h.elim (h1.run pins s σ H R I) (h2.run pins s σ H R I)⟩
/-- a list or a tuple -/
def Sq (K : PySem.W.Frag) (H : Hp) (a : Addr) (xs : List V) : Prop := SqL K H a xs ∨ SqT K H a xs
theorem SqT.up {K : PySem.W.Frag} {H H' : Hp} {a : Addr} {xs : List V} (h : SqT K H a xs) (e : Same H H') : SqT K H' a xs :=
  h.elim (fun h => .inl (h.elim (fun h => .inl (e _ _ h)) fun ⟨o, h⟩ => .inr ⟨o, e _ _ h⟩)) fun h => .inr h
theorem SqL.up {K : PySem.W.Frag} {H H' : Hp} {a : Addr} {xs : List V} (h : SqL K H a xs) (e : Same H H') : SqL K H' a xs :=
  h.elim (fun h => .inl (h.elim (fun h => .inl (e _ _ h)) fun ⟨o, h⟩ => .inr ⟨o, e _ _ h⟩)) fun h => .inr h
theorem Sq.up {K : PySem.W.Frag} {H H' : Hp} {a : Addr} {xs : List V} (h : Sq K H a xs) (e : Same H H') : Sq K H' a xs := h.imp (fun h => SqL.up h e) fun h => SqT.up h e
theorem walk_l {K : PySem.W.Frag} {a : Addr} {xs : List V} : Walk (Itl K a) xs.length (fun H => SqL K H a xs) (YAt xs) :=
  ⟨fun i H hi q => ⟨xs, xs[i], q, by simp [hi]⟩, fun H q => ⟨xs, q, Nat.le_refl _⟩, fun i H x H' hi q y => ⟨y.1, y.2 xs q⟩⟩
theorem walk_t {K : PySem.W.Frag} {a : Addr} {xs : List V} : Walk (Itt K a) xs.length (fun H => SqT K H a xs) (YAt xs) :=
  ⟨fun i H hi q => ⟨xs, xs[i], q, by simp [hi]⟩, fun H q => ⟨xs, q, Nat.le_refl _⟩, fun i H x H' hi q y => ⟨y.1, y.2 xs q⟩⟩
/-- how a value that is a list or a tuple of xs stands, as one of the two -/
inductive Kind where
  | l | t
def Sk (K : PySem.W.Frag) (k : Kind) (H : Hp) (a : Addr) (xs : List V) : Prop := match k with
  | .l => SqL K H a xs
  | .t => SqT K H a xs
theorem Sk.sq {K : PySem.W.Frag} {k : Kind} {H : Hp} {a : Addr} {xs : List V} (h : Sk K k H a xs) : Sq K H a xs := by
  cases k
  · exact .inl h
  · exact .inr h
theorem Sk.up {K : PySem.W.Frag} {k : Kind} {H H' : Hp} {a : Addr} {xs : List V} (h : Sk K k H a xs) (e : Same H H') : Sk K k H' a xs := by
  cases k
  · exact SqL.up h e
  · exact SqT.up h e
theorem Sq.kind {K : PySem.W.Frag} {H : Hp} {a : Addr} {xs : List V} (h : Sq K H a xs) : ∃ k, Sk K k H a xs := h.elim (fun h => ⟨.l, h⟩) fun h => ⟨.t, h⟩
def ItSq (K : PySem.W.Frag) (k : Kind) (a : Addr) : It := match k with
  | .l => Itl K a
  | .t => Itt K a
theorem walk_k {K : PySem.W.Frag} {k : Kind} {a : Addr} {xs : List V} : Walk (ItSq K k a) xs.length (fun H => Sk K k H a xs) (YAt xs) := by
  cases k
  · exact walk_l
  · exact walk_t
/-- a walk over a list or a tuple -/
def iSq (K : PySem.W.Frag) (tl : TE) : TI := fun σ H R => ∃ k : Kind, tl σ H fun x H1 => ∃ a, x = .ref a ∧ (∃ xs, Sk K k H1 a xs) ∧ R (ItSq K k a) H1
theorem pi_sq {X : Cx} {tg l : Expr} {tl : TE} (hl : PE X l tl) : PI X tg l (iSq X.K tl) := by
  refine ⟨fun pins s σ H R I ⟨k, h⟩ => ?_⟩
  cases k
  · exact (pi_list hl).run pins s σ H R I h
  · exact (pi_tup hl).run pins s σ H R I h
/-! ### comprehensions -/
section
variable {J : It} {n : Nat} {G : Hp → Prop} {xs : List V} {g : TG} {tt : TT} {te : TE} {vs : List Nat} {σ : L2.St} {H1 : Hp} {D : Addr} {Qd : Hp → Prop}
theorem new_ {H : Hp} {p : Addr} {o : HO} (hp : H p = none) : Same H (upd H p o) := fun b u e => by
  rw [upd_ne (ne_of_none e hp)]
  exact e
/-- all but D is as it was -/
def But (D : Addr) (H H' : Hp) : Prop := ∀ c o, c ≠ D → H c = some o → H' c = some o
/-- the values are made one after another, the heap of before stays -/
theorem lc_acc (w : Walk J n G (YAt xs)) (hn : n ≤ sizeLine) (hD : H1 D = none) (hG : ∀ H, Same H1 H → G H) (A : Nat → List V → Hp → Prop) (hl : ∀ i acc H, A i acc H → acc.length ≤ i) (A0 : A 0 [] (upd H1 D (.lst [])))
    (hs : ∀ (i : Nat) (x : V) (H : Hp) (acc : List V) (Φ : V → Hp → Prop) (Ψ : Hp → Prop), i < n → xs[i]? = some x → Same H1 H → H D = some (.lst acc) → A i acc H →
      (∀ y H4, Same H H4 → H4 D = some (.lst acc) → (∀ H5, H5 D = some (.lst (acc ++ [y])) → But D H4 H5 → But D H5 H4 → A (i + 1) (acc ++ [y]) H5) → Φ y H4) →
      g x (wipe σ vs) H fun σ2 H2 => wipe σ2 vs = wipe σ vs ∧ tt σ2 H2 fun b H3 => if b = true then te σ2 H3 Φ else Ψ H3)
    (hd : ∀ H acc, Same H1 H → H D = some (.lst acc) → A n acc H → Qd H) :
    ∃ W : Nat → Nat → Hp → Prop, (∃ m, W 0 m (upd H1 D (.lst []))) ∧ ∀ i m H, W i m H →
      (J.stop i H ∧ Qd H) ∨ (J.go i H ∧ ∃ Nx : Hp → Prop, (∀ H', Nx H' → ∃ m', m' < m ∧ W (i + 1) m' H') ∧ ∀ x H', J.yld i H x H' → g x (wipe σ vs) H' fun σ2 H2 => wipe σ2 vs = wipe σ vs ∧ tt σ2 H2 fun b H3 =>
        if b = true then te σ2 H3 fun y H4 => ∃ acc, H4 D = some (.lst acc) ∧ acc.length < sizeLine ∧ Nx (upd H4 D (.lst (acc ++ [y]))) else Nx H3) := by
  refine lc_it w (fun i H => Same H1 H ∧ ∃ acc, H D = some (.lst acc) ∧ A i acc H) ⟨new_ hD, [], upd_same, A0⟩ (fun i H _ p => hG H p.1) (fun i x H H' hi p y => ?_) fun H p => ?_
  · obtain ⟨rfl, hx⟩ := y
    obtain ⟨sm, acc, hd', ha⟩ := p
    refine hs i x _ acc _ _ hi hx sm hd' ha fun y H4 s4 d4 k => ⟨acc, d4, Nat.lt_of_lt_of_le (Nat.lt_of_le_of_lt (hl _ _ _ ha) hi) hn, fun c o e => ?_, acc ++ [y], upd_same, k _ upd_same (fun c o cd e => ?_) fun c o cd e => ?_⟩
    · rw [upd_ne (ne_of_none e hD)]
      exact s4 _ _ (sm _ _ e)
    · rw [upd_ne cd]
      exact e
    · rw [upd_ne cd] at e
      exact e
  · obtain ⟨sm, acc, hd', ha⟩ := p
    exact hd H acc sm hd' ha
/-- values that do not hang on the heap -/
theorem lc_same (w : Walk J n G (YAt xs)) (hn : n ≤ sizeLine) (hD : H1 D = none) (hG : ∀ H, Same H1 H → G H) (ys : List V) (hy : ys.length = n)
    (hs : ∀ (i : Nat) (x y : V) (H : Hp) (Φ : V → Hp → Prop) (Ψ : Hp → Prop), xs[i]? = some x → ys[i]? = some y → Same H1 H → (∀ H4, Same H H4 → Φ y H4) →
      g x (wipe σ vs) H fun σ2 H2 => wipe σ2 vs = wipe σ vs ∧ tt σ2 H2 fun b H3 => if b = true then te σ2 H3 Φ else Ψ H3)
    (hd : ∀ H, Same H1 H → H D = some (.lst ys) → Qd H) :
    ∃ W : Nat → Nat → Hp → Prop, (∃ m, W 0 m (upd H1 D (.lst []))) ∧ ∀ i m H, W i m H →
      (J.stop i H ∧ Qd H) ∨ (J.go i H ∧ ∃ Nx : Hp → Prop, (∀ H', Nx H' → ∃ m', m' < m ∧ W (i + 1) m' H') ∧ ∀ x H', J.yld i H x H' → g x (wipe σ vs) H' fun σ2 H2 => wipe σ2 vs = wipe σ vs ∧ tt σ2 H2 fun b H3 =>
        if b = true then te σ2 H3 fun y H4 => ∃ acc, H4 D = some (.lst acc) ∧ acc.length < sizeLine ∧ Nx (upd H4 D (.lst (acc ++ [y]))) else Nx H3) := by
  refine lc_acc w hn hD hG (fun i acc _ => acc = ys.take i) (fun i acc H e => by rw [e, List.length_take]; omega) (by rw [List.take_zero]) (fun i x H acc Φ Ψ hi hx sm hd' ha k => ?_) fun H acc sm hd' ha => hd H sm ?_
  · have hi' : i < ys.length := by omega
    have ey : ys[i]? = some ys[i] := List.getElem?_eq_getElem hi'
    refine hs i x ys[i] H Φ Ψ hx ey sm fun H4 s4 => k _ H4 s4 (s4 _ _ hd') fun H5 _ _ _ => ?_
    rw [ha, List.take_add_one, ey]
    rfl
  · rw [hd', ha, ← hy, List.take_length]
end
/-! ### x in an instance with the own method -/
section
variable {X : Cx} {CX : CXT} {k : Nat} {C f : Addr} {fd : FuncData} {ps : List Str} {sp : Sp} {E : XK}
theorem op_inOwn (hs : PySem.W.findIn X.K (.ref C) "__contains__" = some (some (.ref f))) (hf : PySem.W.isFn X.K (.ref f) = true) (F : FnOk X.prog X.w X.K X.mg X.base CX k f fd ps sp) (hr : Room k X.A) (hb : Binds X.K fd ps []) (hx : Passes CX X E) :
    OpR X (compareOp .In) (fun x y H Q => ∃ a dx fs, y = .ref a ∧ H a = some (.ins C dx fs) ∧ sp [.ref a, x] H (fun v H' => ∃ b, v = .bl b ∧ Q (.bl b) H') E) := by
  intro pins s σ H x y v u Q I rx ry h
  obtain ⟨a, dx, fs, rfl, ha, q⟩ := h
  cases ry
  obtain ⟨mA, J, _⟩ := ins_get I.hok ha
  obtain ⟨od, J, _⟩ := J.look
  obtain ⟨m, hF⟩ := I.fr
  refine PySem.W.in_K hF I.ok.mod.kin J hs hf ?_
  refine wpAny_mono (run_fn (us := [.ref a, v]) (vs := [.ref a, x]) F hr hb .nil hx I (.cons rfl (.cons rx .nil)) q) (fun w s' z => ?_) fun _ _ z => z
  obtain ⟨v', H', I', rv, b, rfl, q'⟩ := z
  cases rv
  exact wpAny_truthy_bool ⟨.bl b, H', I', rfl, q'⟩
theorem op_notInOwn (hs : PySem.W.findIn X.K (.ref C) "__contains__" = some (some (.ref f))) (hf : PySem.W.isFn X.K (.ref f) = true) (F : FnOk X.prog X.w X.K X.mg X.base CX k f fd ps sp) (hr : Room k X.A) (hb : Binds X.K fd ps []) (hx : Passes CX X E) :
    OpR X (compareOp .NotIn) (fun x y H Q => ∃ a dx fs, y = .ref a ∧ H a = some (.ins C dx fs) ∧ sp [.ref a, x] H (fun v H' => ∃ b, v = .bl b ∧ Q (.bl (!b)) H') E) := by
  intro pins s σ H x y v u Q I rx ry h
  obtain ⟨a, dx, fs, rfl, ha, q⟩ := h
  cases ry
  obtain ⟨mA, J, _⟩ := ins_get I.hok ha
  obtain ⟨od, J, _⟩ := J.look
  obtain ⟨m, hF⟩ := I.fr
  refine PySem.W.notIn_K hF I.ok.mod.kin J hs hf ?_
  refine wpAny_mono (run_fn (us := [.ref a, v]) (vs := [.ref a, x]) F hr hb .nil hx I (.cons rfl (.cons rx .nil)) q) (fun w s' z => ?_) fun _ _ z => z
  obtain ⟨v', H', I', rv, b, rfl, q'⟩ := z
  cases rv
  exact wpAny_truthy_bool ⟨.bl (!b), H', I', rfl, q'⟩
end
end L2

set_option maxHeartbeats 2000000
namespace L2
open PySem PySem.Spec PyProof.Rows RZ
/-! ### zip, slices of lists and tuples -/
theorem walk_zipT {K : PySem.W.Frag} {a b : Addr} {xs ys : List V} {n : Nat} (hn : n = min xs.length ys.length) : Walk (ItzT K a b) n (fun H => SqT K H a xs ∧ SqT K H b ys) (YPair (fun i => xs[i]?) (fun i => ys[i]?)) :=
  ⟨fun i H hi q => ⟨xs, ys, xs[i]'(by omega), ys[i]'(by omega), q.1, q.2, List.getElem?_eq_getElem _, List.getElem?_eq_getElem _⟩,
    fun H q => ⟨xs, ys, q.1, q.2, by omega⟩, fun i H v H' hi q y => by
      obtain ⟨T, x, y', rfl, hT, rfl, f1, f2⟩ := y
      exact ⟨T, x, y', rfl, hT, rfl, f1 xs q.1, f2 ys q.2⟩⟩
def ItZk (K : PySem.W.Frag) (k : Kind) (a b : Addr) : It := match k with
  | .l => Itz K a b
  | .t => ItzT K a b
theorem walk_zk {K : PySem.W.Frag} {k : Kind} {a b : Addr} {xs ys : List V} {n : Nat} (hn : n = min xs.length ys.length) : Walk (ItZk K k a b) n (fun H => Sk K k H a xs ∧ Sk K k H b ys) (YPair (fun i => xs[i]?) (fun i => ys[i]?)) := by
  cases k
  · exact walk_zip hn
  · exact walk_zipT hn
theorem zip_k {K : PySem.W.Frag} {k : Kind} {H : Hp} {a b : Addr} {xs ys : List V} {R : It → Hp → Prop} (ha : Sk K k H a xs) (hb : Sk K k H b ys) (h : R (ItZk K k a b) H) :
    (SqL K H a xs ∧ SqL K H b ys ∧ R (Itz K a b) H) ∨ (SqT K H a xs ∧ SqT K H b ys ∧ R (ItzT K a b) H) := by
  cases k
  · exact .inl ⟨ha, hb, h⟩
  · exact .inr ⟨ha, hb, h⟩
theorem cut_all {xs : List V} {lo hi : Option Int} (h : HT.sIx xs.length 0 lo = 0 ∧ HT.sIx xs.length xs.length hi = xs.length) : cutV xs lo hi = xs := by
  unfold cutV
  rw [h.1, h.2, List.drop_zero, Nat.sub_zero, List.take_length]
theorem sl_k {K : PySem.W.Frag} {k : Kind} {H : Hp} {a : Addr} {xs : List V} {lo hi : Option Int} {Q : V → Hp → Prop} (ha : Sk K k H a xs) (h : ∀ p H', Same H H' → Sk K k H' p (cutV xs lo hi) → Q (.ref p) H') :
    rSlL K (.ref a) lo hi H Q ∨ rSlA K (.ref a) lo hi H Q := by
  cases k
  · exact .inl ⟨a, xs, rfl, ha, fun p hp => h p _ (new_ hp) (SqL.of upd_same)⟩
  · exact .inr ⟨a, xs, rfl, ha, fun w => h a H (fun _ _ e => e) (by rw [cut_all w]; exact ha), fun _ p hp => h p _ (new_ hp) (SqT.of upd_same)⟩
theorem cut_1 (xs : List V) : cutV xs (some (1 : Int)) none = xs.drop 1 := by
  unfold cutV
  rw [show (1 : Int) = ((1 : Nat) : Int) from rfl, HT.sIx_nat, HT.sIx_none]
  rcases Nat.eq_zero_or_pos xs.length with h | h
  · have : xs = [] := List.length_eq_zero_iff.mp h
    subst this
    rfl
  · rw [Nat.min_eq_left h, List.take_of_length_le (by rw [List.length_drop]; exact Nat.le_refl _)]
theorem cut_to (xs : List V) (n : Nat) : cutV xs none (some (n : Int)) = xs.take n := by
  unfold cutV
  rw [HT.sIx_nat, HT.sIx_none, List.drop_zero, Nat.sub_zero]
  rcases Nat.le_total n xs.length with h | h
  · rw [Nat.min_eq_left h]
  · rw [Nat.min_eq_right h, List.take_length, List.take_of_length_le h]
/-! ### small words -/
theorem take_succ' {α : Type} {l : List α} {i : Nat} {x : α} (h : l[i]? = some x) : l.take (i + 1) = l.take i ++ [x] := by
  rw [List.take_add_one, h]
  rfl
theorem ifD_no {p A B : Prop} [Decidable p] (h : ¬ p) (q : B) : if decide p = true then A else B := by
  rw [decide_eq_false h]
  exact iteF q
theorem ifD_yes {p A B : Prop} [Decidable p] (h : p) (q : A) : if decide p = true then A else B := by
  rw [decide_eq_true h]
  exact iteT q
theorem ifD_2 {p A B : Prop} [Decidable p] (h1 : p → A) (h2 : ¬ p → B) : if decide p = true then A else B := by
  by_cases h : p
  · exact ifD_yes h (h1 h)
  · exact ifD_no h (h2 h)
theorem ifB_2 {b : Bool} {A B : Prop} (h1 : b = true → A) (h2 : b = false → B) : if b = true then A else B := by
  cases b
  · exact iteF (h2 rfl)
  · exact iteT (h1 rfl)
theorem Same.none {H H' : Hp} {x : Addr} (s : Same H H') (h : H' x = Option.none) : H x = Option.none := by
  cases e : H x with
  | none => rfl
  | some o => rw [s _ _ e] at h; cases h
theorem all_true (n : Nat) : (List.replicate n true).all id = true := by
  rw [List.all_eq_true]
  intro x hx
  rw [(List.mem_replicate.mp hx).2]
  rfl
theorem boot_isi : bootBuiltins "isinstance" = some (.builtin "isinstance") := by decide +kernel
theorem boot_int' : bootBuiltins "int" = some (.type "int") := by decide +kernel
theorem boot_bool' : bootBuiltins "bool" = some (.type "bool") := by decide +kernel
theorem boot_tuple' : bootBuiltins "tuple" = some (.type "tuple") := by decide +kernel
theorem boot_list' : bootBuiltins "list" = some (.type "list") := by decide +kernel
theorem boot_all' : bootBuiltins "all" = some (.builtin "all") := by decide +kernel
structure Df (K : PySem.W.Frag) (mg : Str → Option Value) (x : Str) (st : Stmt) (f : Addr) (fd : FuncData) (ps : List Str) : Prop where
  F : Fun K x x st f fd
  B : Binds K fd ps []
  M : mg x = some (.ref f)
def rTupK (K : PySem.W.Frag) : List V → Hp → (V → Hp → Prop) → Prop := fun xs H Q => ∃ p ys, xs = [.ref p] ∧ ((SqL K H p ys ∧ ∀ l, H l = none → Q (.ref l) (upd H l (.tup ys))) ∨ (SqT K H p ys ∧ Q (.ref p) H))
theorem call_tupleK {X : Cx} {K : PySem.W.Frag} (h : X.K = K) : CallR X (.type "tuple") (rTupK K) := h ▸ call_tuple_of
def rLstK (K : PySem.W.Frag) : List V → Hp → (V → Hp → Prop) → Prop := fun xs H Q => ∃ p ys, xs = [.ref p] ∧ (SqL K H p ys ∨ SqT K H p ys) ∧ ∀ l, H l = none → Q (.ref l) (upd H l (.lst ys))
theorem call_listK {X : Cx} {K : PySem.W.Frag} (h : X.K = K) : CallR X (.type "list") (rLstK K) := h ▸ call_list_of
def rLenK (K : PySem.W.Frag) : List V → Hp → (V → Hp → Prop) → Prop := fun xs H Q => ∃ p ys, xs = [.ref p] ∧ (SqL K H p ys ∨ SqT K H p ys) ∧ Q (.int ys.length) H
theorem call_lenK {X : Cx} {K : PySem.W.Frag} (h : X.K = K) : CallR X (.builtin "len") (rLenK K) := h ▸ call_len_seq
def rIxTK (K : PySem.W.Frag) : R2 := fun x y H Q => ∃ p xs i v, x = .ref p ∧ y = .int i ∧ SqT K H p xs ∧ atI xs i = some v ∧ Q v H
theorem ix_tupK {X : Cx} {K : PySem.W.Frag} (h : X.K = K) : IxR X (rIxTK K) := h ▸ ix_tup
/-! ### what stands at each place of a list of references -/
def Ea {α : Type} (H : Hp) (P : Hp → Addr → α → Prop) (xs : List V) (ds : List α) : Prop := xs.length = ds.length ∧ ∀ (i : Nat) (x : V) (r : α), xs[i]? = some x → ds[i]? = some r → ∃ c, x = .ref c ∧ P H c r
section
variable {α : Type} {H H' : Hp} {P P' : Hp → Addr → α → Prop} {xs ys : List V} {ds es : List α} {c : Addr} {r : α}
theorem Ea.imp (e : Ea H P xs ds) (f : ∀ c r, P H c r → P' H' c r) : Ea H' P' xs ds := ⟨e.1, fun i x r h1 h2 => let ⟨c, hx, q⟩ := e.2 i x r h1 h2; ⟨c, hx, f c r q⟩⟩
theorem Ea.nil : Ea H P [] [] := ⟨rfl, fun i x r h _ => by simp at h⟩
theorem Ea.append (e : Ea H P xs ds) (e' : Ea H P ys es) : Ea H P (xs ++ ys) (ds ++ es) := by
  refine ⟨by rw [List.length_append, List.length_append, e.1, e'.1], fun i x r h1 h2 => ?_⟩
  rcases Nat.lt_or_ge i xs.length with hi | hi
  · rw [List.getElem?_append_left hi] at h1
    rw [List.getElem?_append_left (by rw [← e.1]; exact hi)] at h2
    exact e.2 i x r h1 h2
  · rw [List.getElem?_append_right hi] at h1
    rw [List.getElem?_append_right (by rw [← e.1]; exact hi), ← e.1] at h2
    exact e'.2 _ x r h1 h2
theorem Ea.one (q : P H c r) : Ea H P [.ref c] [r] := by
  refine ⟨rfl, fun i x r' h1 h2 => ?_⟩
  match i, h1, h2 with
  | 0, h1, h2 =>
    cases h1
    cases h2
    exact ⟨c, rfl, q⟩
  | (j + 1), h1, _ => simp at h1
theorem Ea.push (e : Ea H P xs ds) (q : P H c r) : Ea H P (xs ++ [.ref c]) (ds ++ [r]) := e.append (.one q)
theorem Ea.get (e : Ea H P xs ds) {i : Nat} {r : α} (h : ds[i]? = some r) : ∃ c, xs[i]? = some (.ref c) ∧ P H c r := by
  have hi : i < xs.length := by rw [e.1]; exact (List.getElem?_eq_some_iff.mp h).1
  obtain ⟨c, hc, q⟩ := e.2 i _ r (List.getElem?_eq_getElem hi) h
  exact ⟨c, by rw [List.getElem?_eq_getElem hi, hc], q⟩
theorem Ea.at_ (e : Ea H P xs ds) {i : Nat} {x : V} (h : xs[i]? = some x) : ∃ c r, x = .ref c ∧ ds[i]? = some r ∧ P H c r := by
  have hi : i < ds.length := by rw [← e.1]; exact (List.getElem?_eq_some_iff.mp h).1
  obtain ⟨c, hc, q⟩ := e.2 i _ _ h (List.getElem?_eq_getElem hi)
  exact ⟨c, _, hc, List.getElem?_eq_getElem hi, q⟩
end
/-- a tuple at c of what r is written as -/
def TupOf {α : Type} (f : α → List V) (H : Hp) (c : Addr) (r : α) : Prop := H c = some (.tup (f r))
section
variable {α : Type} {f : α → List V} {H H' : Hp} {xs : List V} {ds : List α} {c p C dx : Addr} {r : α}
theorem TupOf.lst {ys zs : List V} (q : TupOf f H c r) (hD : H p = some (.lst ys)) : TupOf f (upd H p (.lst zs)) c r := by
  unfold TupOf
  rw [upd_ne (ne_of (H := H) q hD (by intro z; cases z))]
  exact q
theorem TupOf.ins {fs : List (Str × V)} {o : HO} (q : TupOf f H c r) (hp : H p = some (.ins C dx fs)) : TupOf f (upd H p o) c r := by
  unfold TupOf
  rw [upd_ne (ne_of (H := H) q hp (by intro z; cases z))]
  exact q
theorem TupOf.but {ys : List V} (q : TupOf f H c r) (hD : H p = some (.lst ys)) (b : But p H H') : TupOf f H' c r := b _ _ (ne_of (H := H) q hD (by intro z; cases z)) q
theorem Ea.same (e : Ea H (TupOf f) xs ds) (s : Same H H') : Ea H' (TupOf f) xs ds := e.imp fun c r q => s _ _ q
end
end L2

set_option maxHeartbeats 4000000
namespace L2
open PySem PySem.Spec PyProof.Rows
/-! ### static methods -/
theorem entry_sm : entryFor table "staticmethod.__get__" = some Builtin.«staticmethod.__get__» := entryFor_of_tree rfl
theorem args_sm (a b c : Value) : argsOk "staticmethod.__get__" { pos := [a, b, c] } := rfl
theorem slot_sm : Slot "staticmethod" (Str.ofString "__get__") "staticmethod.__get__" := by
  refine Slot.of (owner := "staticmethod") (n := "__get__") ?_ ?_ ?_ ?_ ?_ ?_
  · rw [typeLookup_type, builtinLookup_eq_fast]
    rfl
  · decide +kernel
  · decide +kernel
  · decide +kernel
  · left; decide +kernel
  · rw [isSubtype_type]
    rfl
theorem sm_get {prog : Program} {w : World} {A : Around} {s : Shared} {K : PySem.W.Frag} {p C : Addr} {R : Result → Shared → Prop} {f obj : Value} {rest : List Value} (h : K.In s.heap) (hr : PySem.W.recIn K p "staticmethod" = some (f :: rest)) (k : R (.ok (.ret f)) s) :
    codeAny (model prog w) A (.call (.builtin "staticmethod.__get__") { pos := [.ref p, obj, .ref C] }) R s := by
  obtain ⟨d, sl, e⟩ := PySem.W.rec_of h hr
  refine codeAny_call_builtin slot_sm.plain entry_sm (slot_sm.check _ _ _ _ _ _ _ _ ⟨_, e, rfl⟩ (args_sm _ _ _) ?_)
  show wpAny _ _ (Builtin.«staticmethod.__get__» { pos := [.ref p, obj, .ref C] }) _ _ s
  unfold Builtin.«staticmethod.__get__»
  rw [PySem.W.dga_cls]
  refine wpAny_bind (PySem.W.nd_pure ?_)
  refine wpAny_bind ?_
  unfold field
  refine wpAny_bind ?_
  unfold fieldsOf
  refine wpAny_bind (PySem.W.nd_load e ?_)
  refine PySem.W.nd_pure ?_
  refine wpAny_pure ?_
  have e0 : (f :: rest).toArray[0]? = some f := by simp
  rw [e0]
  refine wpAny_pure ?_
  unfold ret
  refine wpAny_pure ?_
  exact k
structure SMet (K : PySem.W.Frag) (C : Addr) (mc : Value) (m : Str) (p g : Addr) : Prop where
  at_ : PySem.W.findCls K (.ref C) mc m = some (.get (.builtin "staticmethod.__get__") (.ref p) .none (.ref C))
  rc : ∃ rest, PySem.W.recIn K p "staticmethod" = some (.ref g :: rest)
  hi : PySem.W.handedIn (.ref g) = true
theorem getsm_ok {X : Cx} {pins : List (Addr × Obj)} {σ : L2.St} {H : Hp} {s : Shared} {C p g : Addr} {mc : Value} {m : Str} {A : Around} {E : Value → Shared → Prop} {b : Bool} {Q : Value → Shared → Prop}
    (I : L2.Inv X pins σ H s) (r : ClX.CRead X.K C mc) (c : SMet X.K C mc m p g) (k : ∀ s', L2.Inv X pins σ H s' → Q (.ref g) s') : wpAny (model X.prog X.w) A (getAttr (.ref C) m b) Q E s := by
  obtain ⟨rest, hr⟩ := c.rc
  exact PySem.W.cls_bind I.kIn r.rd c.at_ (wpAny_call (sm_get I.kIn hr (PySem.W.handed_on c.hi (k _ (I.tok _)))))
theorem getmethsm_ok {X : Cx} {pins : List (Addr × Obj)} {σ : L2.St} {H : Hp} {s : Shared} {C p g : Addr} {mc : Value} {m : Str} {A : Around} {E : Value → Shared → Prop} {pl : Sem Bool} {Q : Value × List Value → Shared → Prop}
    (I : L2.Inv X pins σ H s) (r : ClX.CRead X.K C mc) (c : SMet X.K C mc m p g) (k : ∀ s', L2.Inv X pins σ H s' → Q (.ref g, []) s') : wpAny (model X.prog X.w) A (getMethod (.ref C) m pl) Q E s :=
  PySem.W.method_cls I.kIn r.ga (getsm_ok I r c k)
def tSMeth (C : Addr) (sp : Sp) (E : XK) (ta : TE) (t : TA) : TE := fun σ H Q => ta σ H fun x H1 => x = .ref C ∧ t σ H1 fun vs H2 => sp vs H2 Q E
theorem pe_smeth {X : Cx} {CX : CXT} {k : Nat} {C p g : Addr} {fd : FuncData} {ps : List Str} {mc : Value} {sp : Sp} {E : XK} {o e : PySem.Expr} {es : List PySem.Expr} {m : Str} {pos apos : Pos} {ta : TE} {t : TA} {pl : Sem Bool}
    (ho : PE X o ta) (r : ClX.CRead X.K C mc) (c : SMet X.K C mc m p g) (F : FnOk X.prog X.w X.K X.mg X.base CX k g fd ps sp) (hr : Room k X.A) (kp : PySem.W.keepIn X.K (.ref g) = true) (hb : Binds X.K fd ps []) (hx : Passes CX X E) (ha : PA X (e :: es) t)
    (hs : starEach (e :: es) X.env = (false, eval e X.env) :: starEach es X.env := by rfl) (hpl : ((backTo pos (starEach es X.env)).any fun x => x.fst) = false := by rfl)
    (he : eval ((o.Attribute m apos).Call (e :: es) [] pos) X.env = (do
      let ov ← eval o X.env
      standAt apos.atName
      let __x ← holding [ov] (getMethod ov m pl)
      match __x with
      | (f, first) => callWith pos f first (backTo pos (starEach (e :: es) X.env)) (backToKw pos (keywordEach [] X.env))) := by rfl) :
    PE X ((o.Attribute m apos).Call (e :: es) [] pos) (tSMeth C sp E ta t) := by
  refine ⟨fun pins s σ H Q I h => PySem.W.methodCall_KW (pl := pl) (thn (ho.run pins s σ H _ I h) fun v s1 q => ?_) he⟩
  obtain ⟨x, H1, I1, rx, rfl, q⟩ := q
  cases rx
  refine getmethsm_ok I1 r c fun s2 I2 => ?_
  refine PySem.W.callWith_K I2.ok.mod.kin kp (thn (ha.run pos pins s2 σ H1 _ I2 q) fun us s3 q3 => ?_) hs hpl
  obtain ⟨vs, H3, I3, rv, q3⟩ := q3
  exact ⟨I3.kIn, run_fn F hr hb .nil hx I3 rv (by simpa using q3)⟩
end L2

set_option maxHeartbeats 2000000
namespace PLow
open PySem PySem.W PySem.Calls PyProof.Rows
section
variable {prog : Program} {w : World} {M : Model} {A : Around} {E : Value → Shared → Prop} {s : Shared} {K : Frag} {x C L f : Addr} {h₀ : Heap} {m : Str → Option Value} {ox : Obj} {od : Option Obj} {nm : String}

/-- an int's own slot declines an instance -/
theorem add_declines {a : Int} {t : Tok} {R : PySem.Fin → Shared → Prop} (ho : s.heap.get? x = some ox) (hd : ∀ v, ox.data ≠ .prim v) (h : R (.done (.ret .notImplemented)) s) :
    wpAny (model prog w) A (Builtin.«int.__add__» ⟨[Value.int a t, Value.ref x], []⟩) R E s := by
  obtain ⟨hp, g, d, tk, os⟩ := s
  wp_walk
  split
  · rename_i e
    exact absurd e (hd _)
  · wp_walk
    exact h
theorem sub_declines {a : Int} {t : Tok} {R : PySem.Fin → Shared → Prop} (ho : s.heap.get? x = some ox) (hd : ∀ v, ox.data ≠ .prim v) (h : R (.done (.ret .notImplemented)) s) :
    wpAny (model prog w) A (Builtin.«int.__sub__» ⟨[Value.int a t, Value.ref x], []⟩) R E s := by
  obtain ⟨hp, g, d, tk, os⟩ := s
  wp_walk
  split
  · rename_i e
    exact absurd e (hd _)
  · wp_walk
    exact h
theorem mul_declines {a : Int} {t : Tok} {R : PySem.Fin → Shared → Prop} (ho : s.heap.get? x = some ox) (hd : ∀ v, ox.data ≠ .prim v) (h : R (.done (.ret .notImplemented)) s) :
    wpAny (model prog w) A (Builtin.«int.__mul__» ⟨[Value.int a t, Value.ref x], []⟩) R E s := by
  obtain ⟨hp, g, d, tk, os⟩ := s
  wp_walk
  split
  · rename_i e
    exact absurd e (hd _)
  · wp_walk
    exact h

/-- the left operand's own slot, the right one declines: an int and an instance with the reflected method -/
theorem rbin {op : Operator} {id : String} {a : Int} {t : Tok} {B : Builtin} {Q : Value → Shared → Prop} {g : Addr} (F : Fr h₀ L s.heap m) (X₀ : K.In h₀) (I : InstAt s.heap x ox C od) (hc : selfFirst K C = true)
    (hs : findIn K (.ref C) (PySem.dunder op.info.2) = some (some (.ref g))) (hr : findIn K (.ref C) (dunderR op.info.2) = some (some (.ref f))) (hf : isFn K (.ref f) = true)
    (hfT : fillsNumberSlot (.type "int") op.info.2 = pure true) (hsub : subIn K (.ref C) (.type "int") = some false)
    (slot : Slot "int" (PySem.dunder op.info.2) id) (entry : entryFor table id = some B) (args : argsOk id ⟨[Value.int a t, .ref x], []⟩)
    (dec : ∀ (A : Around) (E : Value → Shared → Prop) (R : PySem.Fin → Shared → Prop), R (.done (.ret .notImplemented)) s → wpAny (model prog w) A (B ⟨[Value.int a t, .ref x], []⟩) R E s)
    (h : wpAny (model prog w) A (call (.ref f) [.ref x, .int a t]) (PySem.W.CmpBack Q) E s) : wpAny (model prog w) A (binaryOp op (.int a t) (.ref x)) Q E s := by
  have X := X₀.keeps F.keep
  obtain ⟨cd, rest, hcd, hm⟩ := ksp_first hc
  rcases hi : op.info with ⟨sym, nm'⟩
  rw [hi] at hs hr hfT slot
  dsimp only at hs hr hfT slot
  have one := ksp_try X I hr hf h
  have L0 : Looks (model prog w) s.heap (typeOf (.int a t)) (.type "int") := Looks.of_pure rfl
  have L1 : Looks (model prog w) s.heap (typeOf (.ref x)) (.ref C) := I.type
  have L3 : Looks (model prog w) s.heap (fillsNumberSlot (.ref C) nm') true := fills_K X hcd hm hs
  have L5 : Looks (model prog w) s.heap (isSubtype (.ref C) (.type "int")) false := looks_subIn X hsub
  have hne : (Value.type "int" == Value.ref C) = false := Bool.eq_false_iff.mpr fun q => by cases beq_iff_eq.mp q
  have hpy : numberSlotInPython (.type "int") nm' = pure false := rfl
  simp only [binaryOp, hi]
  refine wpAny_holding (wpAny_bind ?_)
  unfold binaryOp1
  refine wpAny_bind (L0.here (wpAny_bind (L1.here (wpAny_bind (wpAny_of_eq hfT ?_)))))
  simp only [hne, Bool.false_eq_true, if_false]
  refine wpAny_bind (L3.here ?_)
  simp only [Bool.and_self, if_true]
  refine wpAny_bind (L5.here ?_)
  simp only [Bool.false_eq_true, if_false, pure_bind, Bool.not_false, Bool.and_self, if_true, hpy]
  refine wpAny_bind (wpAny_tryMethod_declines (id := id) (typeIs_int s a t) slot ?_)
  refine GQ.call_here slot (typeIs_int s a t) entry args (dec _ _ _ ?_)
  refine ⟨rfl, ?_⟩
  refine wpAny_bind (wpAny_mono one (fun r s' hr' => ?_) fun _ _ e => e)
  obtain ⟨v, rfl, hq⟩ := hr'
  dsimp only
  exact wpAny_bind (wpAny_rule (wpAny_pure (wpAny_pure hq)))

/-- abs(x) by the own method -/
theorem abs_own {Q : Value → Shared → Prop} (F : Fr h₀ L s.heap m) (X₀ : K.In h₀) (I : InstAt s.heap x ox C od) (hs : findIn K (.ref C) "__abs__" = some (some (.ref f))) (hf : isFn K (.ref f) = true)
    (h : wpAny (model prog w) A.in1 (call (.ref f) [.ref x]) Q E s) : wpAny (model prog w) A (call (.builtin "abs") [.ref x]) Q E s := by
  refine call_function_entry kind_abs plain_abs entry_abs (args_abs _) ?_
  unfold Builtin.«abs»
  refine wpAny_bind (m := oneArg "abs" _) (wpAny_pure ?_)
  refine wpAny_bind (special_fn (X₀.keeps F.keep) I hs (beq_iff_eq.mp hf) ?_)
  exact wpAny_mono h (fun v s' q => wpAny_pure ⟨v, rfl, q⟩) fun _ _ z => z
end
end PLow

namespace L2
open PySem PySem.Spec PyProof.Rows
section
variable {X : Cx} {CX : CXT} {k : Nat} {C f g : Addr} {fd : FuncData} {ps : List Str} {sp : Sp} {E : XK} {op : Operator}
theorem cmpBack_of {pins : List (Addr × Obj)} {σ : St} {Q : VK} {u : Value} {s' : Shared} (h : EP X pins σ Q u s') : PySem.W.CmpBack (EP X pins σ Q) u s' := by
  obtain ⟨v, H', I, r, q⟩ := id h
  cases v with
  | non => cases (show u = Value.none from r); exact h
  | bl b => cases (show u = Value.bool b from r); exact h
  | int i => obtain ⟨t, e⟩ := (show ∃ t, u = Value.int i t from r); cases e; exact h
  | str x => obtain ⟨t, e⟩ := (show ∃ t, u = Value.str x t from r); cases e; exact h
  | byt b => obtain ⟨t, e⟩ := (show ∃ t, u = Value.bytes b t from r); cases e; exact h
  | flt b => obtain ⟨t, e⟩ := (show ∃ t, u = Value.float b t from r); cases e; exact h
  | ref a => cases (show u = Value.ref a from r); exact h
  | ty n => cases (show u = Value.type n from r); exact h
/-- what of the class an own operator asks: f the method, g the reflected one -/
structure OwnOp (K : PySem.W.Frag) (C f g : Addr) (op : Operator) : Prop where
  first : PySem.W.selfFirst K C = true
  at_ : PySem.W.findIn K (.ref C) (PySem.dunder op.info.2) = some (some (.ref f))
  fn : PySem.W.isFn K (.ref f) = true
  ar : PySem.W.findIn K (.ref C) (dunderR op.info.2) = some (some (.ref g))
  fr : PySem.W.isFn K (.ref g) = true
  sub : PySem.W.subIn K (.type "int") (.ref C) = some false
  sub' : PySem.W.subIn K (.ref C) (.type "int") = some false
/-- x op y, x an instance with the own method, y an instance of the same class -/
theorem op_ownR (O : OwnOp X.K C f g op) (F : FnOk X.prog X.w X.K X.mg X.base CX k f fd ps sp) (hr : Room k X.A) (hb : Binds X.K fd ps []) (hx : Passes CX X E) :
    OpR X (binaryOp op) (fun x y H Q => ∃ a b dx dy fs gs, x = .ref a ∧ y = .ref b ∧ H a = some (.ins C dx fs) ∧ H b = some (.ins C dy gs) ∧ sp [.ref a, .ref b] H Q E) := by
  intro pins s σ H x y v u Q I rx ry h
  obtain ⟨a, b, dx, dy, fs, gs, rfl, rfl, ha, hb', q⟩ := h
  cases rx
  cases ry
  obtain ⟨mA, J, _⟩ := ins_get I.hok ha
  obtain ⟨mB, J', _⟩ := ins_get I.hok hb'
  obtain ⟨od, J, _⟩ := J.look
  obtain ⟨od', J', _⟩ := J'.look
  obtain ⟨m, hF⟩ := I.fr
  refine PySem.W.binop_K hF I.ok.mod.kin J J'.type O.first O.at_ O.fn ?_
  exact wpAny_mono (run_fn (us := [.ref a, .ref b]) (vs := [.ref a, .ref b]) F hr hb .nil hx I (.cons rfl (.cons rfl .nil)) q) (fun _ _ z => cmpBack_of z) fun _ _ z => z
/-- x op i, i an int -/
theorem op_ownI {fo ro : Option Value} (O : OwnOp X.K C f g op) (h1 : PySem.W.findIn X.K (.type "int") (PySem.dunder op.info.2) = some fo) (h2 : PySem.W.findIn X.K (.type "int") (dunderR op.info.2) = some ro)
    (F : FnOk X.prog X.w X.K X.mg X.base CX k f fd ps sp) (hr : Room k X.A) (hb : Binds X.K fd ps []) (hx : Passes CX X E) :
    OpR X (binaryOp op) (fun x y H Q => ∃ a i dx fs, x = .ref a ∧ y = .int i ∧ H a = some (.ins C dx fs) ∧ sp [.ref a, .int i] H Q E) := by
  intro pins s σ H x y v u Q I rx ry h
  obtain ⟨a, i, dx, fs, rfl, rfl, ha, q⟩ := h
  cases rx
  obtain ⟨t, rfl⟩ := ry
  obtain ⟨mA, J, _⟩ := ins_get I.hok ha
  obtain ⟨od, J, _⟩ := J.look
  obtain ⟨m, hF⟩ := I.fr
  refine PySem.W.ksp_binT hF I.ok.mod.kin J rfl O.first O.at_ O.fn O.ar (.inr ⟨_, rfl⟩) h1 h2 O.sub ?_
  exact wpAny_mono (run_fn (us := [.ref a, .int i t]) (vs := [.ref a, .int i]) F hr hb .nil hx I (.cons rfl (.cons ⟨t, rfl⟩ .nil)) q) (fun _ _ z => cmpBack_of z) fun _ _ z => z
/-- i op x, i an int: the reflected method, F of g -/
theorem op_ownL {id : String} {B : Builtin} (O : OwnOp X.K C f g op) (hfT : fillsNumberSlot (.type "int") op.info.2 = pure true)
    (slot : PySem.Slot "int" (PySem.dunder op.info.2) id) (entry : entryFor table id = some B) (args : ∀ i t x, argsOk id ⟨[Value.int i t, .ref x], []⟩)
    (dec : ∀ (i : Int) (t : Tok) (x : Addr) (ox : Obj) (s : Shared), s.heap.get? x = some ox → (∀ v, ox.data ≠ .prim v) → ∀ (A : Around) (E : Value → Shared → Prop) (R : PySem.Fin → Shared → Prop), R (.done (.ret .notImplemented)) s →
      wpAny (model X.prog X.w) A (B ⟨[Value.int i t, .ref x], []⟩) R E s)
    (F : FnOk X.prog X.w X.K X.mg X.base CX k g fd ps sp) (hr : Room k X.A) (hb : Binds X.K fd ps []) (hx : Passes CX X E) :
    OpR X (binaryOp op) (fun x y H Q => ∃ a i dx fs, x = .int i ∧ y = .ref a ∧ H a = some (.ins C dx fs) ∧ sp [.ref a, .int i] H Q E) := by
  intro pins s σ H x y v u Q I rx ry h
  obtain ⟨a, i, dx, fs, rfl, rfl, ha, q⟩ := h
  obtain ⟨t, rfl⟩ := rx
  cases ry
  obtain ⟨mA, J, _⟩ := ins_get I.hok ha
  have ho := J.obj
  obtain ⟨od, J, _⟩ := J.look
  obtain ⟨m, hF⟩ := I.fr
  refine PLow.rbin hF I.ok.mod.kin J O.first O.at_ O.ar O.fr hfT O.sub' slot entry (args _ _ _) (dec i t a _ s ho (fun v z => by simp [PySem.W.instObj] at z)) ?_
  exact wpAny_mono (run_fn (us := [.ref a, .int i t]) (vs := [.ref a, .int i]) F hr hb .nil hx I (.cons rfl (.cons ⟨t, rfl⟩ .nil)) q) (fun _ _ z => cmpBack_of z) fun _ _ z => z
/-- -x -/
theorem un_own (hs : PySem.W.findIn X.K (.ref C) "__neg__" = some (some (.ref f))) (hf : PySem.W.isFn X.K (.ref f) = true) (F : FnOk X.prog X.w X.K X.mg X.base CX k f fd ps sp) (hr : Room k X.A) (hb : Binds X.K fd ps []) (hx : Passes CX X E) :
    UnR X (unaryOp .USub) (fun x H Q => ∃ a dx fs, x = .ref a ∧ H a = some (.ins C dx fs) ∧ sp [.ref a] H Q E) := by
  intro pins s σ H x v Q I rx h
  obtain ⟨a, dx, fs, rfl, ha, q⟩ := h
  cases rx
  obtain ⟨mA, J, _⟩ := ins_get I.hok ha
  obtain ⟨od, J, _⟩ := J.look
  obtain ⟨m, hF⟩ := I.fr
  refine PySem.W.ksp_neg hF I.ok.mod.kin J hs hf ?_
  exact run_fn (us := [.ref a]) (vs := [.ref a]) F hr hb .nil hx I (.cons rfl .nil) q
/-- abs(x) -/
theorem call_absOwn (hs : PySem.W.findIn X.K (.ref C) "__abs__" = some (some (.ref f))) (hf : PySem.W.isFn X.K (.ref f) = true) (F : FnOk X.prog X.w X.K X.mg X.base CX k f fd ps sp) (hr : Room (k + 1) X.A) (hb : Binds X.K fd ps []) (hx : Passes CX X E) :
    CallR X (.builtin "abs") (fun xs H Q => ∃ a dx fs, xs = [.ref a] ∧ H a = some (.ins C dx fs) ∧ sp [.ref a] H Q E) := by
  intro pins s σ H xs us Q I r h
  obtain ⟨a, dx, fs, rfl, ha, q⟩ := h
  cases r with
  | cons r1 r2 =>
    cases r2
    cases r1
    obtain ⟨mA, J, _⟩ := ins_get I.hok ha
    obtain ⟨od, J, _⟩ := J.look
    obtain ⟨m, hF⟩ := I.fr
    refine PLow.abs_own hF I.ok.mod.kin J hs hf ?_
    have hl := F.len _ _ _ _ q
    have r2 : Vals [V.ref a] [Value.ref a] := .cons rfl .nil
    refine wpAny_call (codeAny_mono (F.run X.A.in1 X.stack s H ⟨[.ref a], []⟩ [.ref a] [.ref a] Q E hr.in1 I.env0.in1 (by
      have := hb s [.ref a] I.kIn (by simpa using hl)
      simpa using this) r2 q) fun r s' hq => ?_)
    cases r with
    | error e => exact hx pins σ H s e s' I hq
    | ok fl =>
      cases fl with
      | ret w => exact I.after hq
      | next => exact False.elim hq
      | brk => exact False.elim hq
      | cont => exact False.elim hq
/-- // by any divisor but 0 below 2 ^ 9000 in size -/
def CDivS (_ j : Int) : Prop := j ≠ 0 ∧ j.natAbs.log2 < 9000
theorem op_fdivS : OpR X (binaryOp .FloorDiv) (rI CDivS fun i j => .int (i.fdiv j)) := opI fun i j _ _ _ _ _ hc q =>
  floordiv_int hc.1 q (.inl (PyProof.noPylong_of_log2 hc.2))
end
end L2

set_option maxHeartbeats 2000000
namespace PLow
open PySem PySem.W PySem.Calls PyProof.Rows
section
variable {prog : Program} {w : World} {A : Around} {E : Value → Shared → Prop} {s : Shared} {K : Frag} {x C L f : Addr} {h₀ : Heap} {m : Str → Option Value} {ox : Obj} {od : Option Obj}
/-- bool(x) by the own method -/
theorem bool_own {Q : Value → Shared → Prop} (F : Fr h₀ L s.heap m) (X₀ : K.In h₀) (I : InstAt s.heap x ox C od) (hs : findIn K (.ref C) "__bool__" = some (some (.ref f))) (hf : isFn K (.ref f) = true)
    (h : wpAny (model prog w) A.in1.in1 (call (.ref f) [.ref x]) (PySem.W.BoolBack fun b s' => Q (.bool b) s') E s) : wpAny (model prog w) A (call (.type "bool") [.ref x]) Q E s := by
  refine callType_newIn (S := fun A R s' => s' = s ∧ wpAny (model prog w) A.in1 (call (.ref f) [.ref x]) (PySem.W.BoolBack fun b s' => R (.ok (.ret (.bool b))) s') (fun e s' => R (.error e) s') s) PySem.F.called_bool PySem.F.newNe_bool (PySem.F.typeCall_bool_1 _) (PySem.F.newCall_bool_1 _)
    (fun obj => PySem.F.args_object_init_2 obj _) PySem.F.entry_bool_new ?_ ⟨rfl, ?_⟩
  · rintro A R s' ⟨rfl, hc⟩
    have tr : ∀ {Q' : Bool → Shared → Prop}, wpAny (model prog w) A.in1 (call (.ref f) [.ref x]) (PySem.W.BoolBack Q') (fun e s' => R (.error e) s') s' → wpAny (model prog w) A.in1 (truthy (.ref x)) Q' (fun e s' => R (.error e) s') s' := fun z => truthy_K F X₀ I hs hf z
    have f1 := PySem.F.conv_sub_bool
    refine wpAny_bind (m := isType _) (wpAny_pure ?_)
    dsimp only
    simp only [Bool.not_true, Bool.false_eq_true, if_false]
    refine wpAny_bind (wpAny_of_eq f1 ?_)
    simp only [Bool.not_true, Bool.false_eq_true, if_false]
    refine wpAny_bind (m := someArgs _ _ _ _) (wpAny_pure ?_)
    dsimp only
    refine wpAny_bind (tr (wpAny_mono hc (fun v s' hv => ?_) fun _ _ z => z))
    cases v <;> first | exact hv.elim | skip
    exact wpAny_pure hv
  · refine wpAny_mono h (fun v s' hv => ?_) fun _ _ z => z
    cases v <;> first | exact hv.elim | skip
    exact ⟨rfl, hv⟩
end
end PLow
namespace L2
open PySem PySem.Spec PyProof.Rows
section
variable {X : Cx} {CX : CXT} {k : Nat} {C f : Addr} {fd : FuncData} {ps : List Str} {sp : Sp} {E : XK} {op : CmpOp}
/-- an own comparison -/
structure OwnC (K : PySem.W.Frag) (C f : Addr) (op : CmpOp) : Prop where
  at_ : PySem.W.findIn K (.ref C) (cmpInfo op).2.1 = some (some (.ref f))
  fn : PySem.W.isFn K (.ref f) = true
  sub : PySem.W.subIn K (.type "int") (.ref C) = some false
theorem rich_own (O : OwnC X.K C f op) (F : FnOk X.prog X.w X.K X.mg X.base CX k f fd ps sp) (hr : Room k X.A) (hb : Binds X.K fd ps []) (hx : Passes CX X E) {pins : List (Addr × Obj)} {s : Shared} {σ : St} {H : Hp} {y : V} {u : Value} {Q : VK} {a dx : Addr} {fs : List (Str × V)}
    (I : Inv X pins σ H s) (ha : H a = some (.ins C dx fs)) (ry : RelV y u) (hy : (∃ i, y = .int i) ∨ ∃ b dy gs, y = .ref b ∧ H b = some (.ins C dy gs)) (q : sp [.ref a, y] H Q E) :
    wpAny (model X.prog X.w) X.A (richCompare op (.ref a) u) (EP X pins σ Q) X.xe s := by
  obtain ⟨mA, J, _⟩ := ins_get I.hok ha
  obtain ⟨od, J, _⟩ := J.look
  obtain ⟨m, hF⟩ := I.fr
  have fin : wpAny (model X.prog X.w) X.A (call (.ref f) [.ref a, u]) (PySem.W.CmpBack (EP X pins σ Q)) X.xe s :=
    wpAny_mono (run_fn (us := [.ref a, u]) (vs := [.ref a, y]) F hr hb .nil hx I (.cons rfl (.cons ry .nil)) q) (fun _ _ z => cmpBack_of z) fun _ _ z => z
  rcases hy with ⟨i, rfl⟩ | ⟨b, dy, gs, rfl, hb'⟩
  · obtain ⟨t, rfl⟩ := ry
    refine PySem.W.cmp_K (op := op) (tb := .type "int") hr.units0 hF I.ok.mod.kin J (PySem.W.Looks.of_pure rfl) ?_ O.at_ O.fn fin
    unfold PySem.W.notFirst
    rw [O.sub]
    simp
  · cases ry
    obtain ⟨mB, J', _⟩ := ins_get I.hok hb'
    obtain ⟨od', J', _⟩ := J'.look
    exact PySem.W.cmp_K (op := op) (tb := .ref C) hr.units0 hF I.ok.mod.kin J J'.type (by simp [PySem.W.notFirst]) O.at_ O.fn fin
def rOwnC (C : Addr) (sp : Sp) (E : XK) : R2 := fun x y H Q => ∃ a dx fs, x = .ref a ∧ H a = some (.ins C dx fs) ∧ ((∃ i, y = .int i) ∨ ∃ b dy gs, y = .ref b ∧ H b = some (.ins C dy gs)) ∧ sp [x, y] H Q E
theorem op_ownC (O : OwnC X.K C f op) (F : FnOk X.prog X.w X.K X.mg X.base CX k f fd ps sp) (hr : Room k X.A) (hb : Binds X.K fd ps []) (hx : Passes CX X E) (hc : ∀ v u, compareOp op v u = richCompare op v u := by intro _ _; rfl) : OpR X (compareOp op) (rOwnC C sp E) := by
  intro pins s σ H x y v u Q I rx ry h
  obtain ⟨a, dx, fs, rfl, ha, hy, q⟩ := h
  cases rx
  rw [hc]
  exact rich_own O F hr hb hx I ha ry hy q
/-- a call of a built-in class whose own method answers, two levels in -/
theorem run_in2 {pins : List (Addr × Obj)} {σ : St} {H : Hp} {s : Shared} {Q : VK} {a : Addr} (F : FnOk X.prog X.w X.K X.mg X.base CX k f fd ps sp) (hr : Room (k + 2) X.A) (hb : Binds X.K fd ps []) (hx : Passes CX X E) (I : Inv X pins σ H s) (q : sp [.ref a] H Q E) :
    wpAny (model X.prog X.w) X.A.in1.in1 (call (.ref f) [.ref a]) (EP X pins σ Q) X.xe s := by
  have hl := F.len _ _ _ _ q
  have r2 : Vals [V.ref a] [Value.ref a] := .cons rfl .nil
  refine wpAny_call (codeAny_mono (F.run X.A.in1.in1 X.stack s H ⟨[.ref a], []⟩ [.ref a] [.ref a] Q E hr.in1.in1 I.env0.in1.in1 (by
    have := hb s [.ref a] I.kIn (by simpa using hl)
    simpa using this) r2 q) fun r s' hq => ?_)
  cases r with
  | error e => exact hx pins σ H s e s' I hq
  | ok fl =>
    cases fl with
    | ret w => exact I.after hq
    | next => exact False.elim hq
    | brk => exact False.elim hq
    | cont => exact False.elim hq
/-- bool(x) -/
theorem call_boolOwn (hs : PySem.W.findIn X.K (.ref C) "__bool__" = some (some (.ref f))) (hf : PySem.W.isFn X.K (.ref f) = true) (F : FnOk X.prog X.w X.K X.mg X.base CX k f fd ps sp) (hr : Room (k + 2) X.A) (hb : Binds X.K fd ps []) (hx : Passes CX X E) :
    CallR X (.type "bool") (fun xs H Q => ∃ a dx fs, xs = [.ref a] ∧ H a = some (.ins C dx fs) ∧ sp [.ref a] H (fun v H' => ∃ b, v = .bl b ∧ Q (.bl b) H') E) := by
  intro pins s σ H xs us Q I r h
  obtain ⟨a, dx, fs, rfl, ha, q⟩ := h
  obtain ⟨u, rfl, ru⟩ := vals1 r
  cases ru
  obtain ⟨mA, J, _⟩ := ins_get I.hok ha
  obtain ⟨od, J, _⟩ := J.look
  obtain ⟨m, hF⟩ := I.fr
  refine PLow.bool_own hF I.ok.mod.kin J hs hf (wpAny_mono (run_in2 F hr hb hx I q) (fun u s' z => ?_) fun _ _ z => z)
  obtain ⟨v, H', I', rv, b, rfl, q'⟩ := z
  cases rv
  exact ⟨.bl b, H', I', rfl, q'⟩
/-- str(x) -/
theorem call_strOwn (hs : PySem.W.findIn X.K (.ref C) "__str__" = some (some (.ref f))) (hf : PySem.W.isFn X.K (.ref f) = true) (F : FnOk X.prog X.w X.K X.mg X.base CX k f fd ps sp) (hr : Room (k + 2) X.A) (hb : Binds X.K fd ps []) (hx : Passes CX X E) :
    CallR X (.type "str") (fun xs H Q => ∃ a dx fs, xs = [.ref a] ∧ H a = some (.ins C dx fs) ∧ sp [.ref a] H (fun v H' => ∃ b, v = .str b ∧ Q (.str b) H') E) := by
  intro pins s σ H xs us Q I r h
  obtain ⟨a, dx, fs, rfl, ha, q⟩ := h
  obtain ⟨u, rfl, ru⟩ := vals1 r
  cases ru
  obtain ⟨mA, J, _⟩ := ins_get I.hok ha
  obtain ⟨od, J, _⟩ := J.look
  have hu := hr.units
  refine PySem.W.kso_call (by show X.A.units + 1 + 1 < cLine; omega) I.kIn J hs hf (wpAny_mono (run_in2 F hr hb hx I q) (fun u s' z => ?_) fun _ _ z => z)
  obtain ⟨v, H', I', rv, b, rfl, q'⟩ := z
  obtain ⟨t, rfl⟩ := rv
  exact ⟨.str b, H', I', ⟨t, rfl⟩, q'⟩
end
end L2

set_option maxHeartbeats 2000000
/-! a written dict of ints -/
namespace L2
open PySem PySem.Spec PyProof.Rows
/-- the entries of {1: 1, 4: 2, 9: 3, 16: 4} -/
def esM (x1 x2 x3 x4 y1 y2 y3 y4 : Tok) : Array DictEntry := #[⟨1, .int 1 x1, .int 1 y1⟩, ⟨4, .int 4 x2, .int 2 y2⟩, ⟨9, .int 9 x3, .int 3 y3⟩, ⟨16, .int 16 x4, .int 4 y4⟩]
structure KMarks (K : PySem.W.Frag) (d : Addr) : Prop where
  at_ : ∃ x1 x2 x3 x4 y1 y2 y3 y4 n, K.lookup d = some ⟨.type "dict", none, .dict (esM x1 x2 x3 x4 y1 y2 y3 y4) n, #[]⟩
  low : (d == sysModules) = false
/-- 1, 4, 9, 16 by their roots -/
inductive Root : Int → Int → Prop where
  | r1 : Root 1 1
  | r2 : Root 4 2
  | r3 : Root 9 3
  | r4 : Root 16 4
theorem root_find {k v : Int} (r : Root k v) (x1 x2 x3 x4 y1 y2 y3 y4 : Tok) : ∃ t, findBy Value.isInt (esM x1 x2 x3 x4 y1 y2 y3 y4) k = some (.int v t) := by
  cases r
  · exact ⟨y1, rfl⟩
  · exact ⟨y2, rfl⟩
  · exact ⟨y3, rfl⟩
  · exact ⟨y4, rfl⟩
section
variable {X : Cx} {d : Addr}
theorem KMarks.map (D : KMarks X.K d) {pins : List (Addr × Obj)} {σ : St} {H : Hp} {s : Shared} (I : Inv X pins σ H s) : ∃ x1 x2 x3 x4 y1 y2 y3 y4, s.heap.MapOf (PySem.intKind X.prog X.w) d (fun k => findBy Value.isInt (esM x1 x2 x3 x4 y1 y2 y3 y4) k) := by
  obtain ⟨x1, x2, x3, x4, y1, y2, y3, y4, n, e⟩ := D.at_
  refine ⟨x1, x2, x3, x4, y1, y2, y3, y4, _, _, n, I.kIn _ _ e, ⟨rfl, rfl, rfl⟩, rfl, ?_, fun _ => rfl⟩
  intro en hen
  have hm : en ∈ (esM x1 x2 x3 x4 y1 y2 y3 y4).toList := Array.mem_toList_iff.mpr hen
  rcases List.mem_cons.mp hm with rfl | hm
  · exact ⟨1, by simp [PySem.intKind, Value.isInt], (by show (1 : Int) = hashInt 1; decide +kernel)⟩
  rcases List.mem_cons.mp hm with rfl | hm
  · exact ⟨4, by simp [PySem.intKind, Value.isInt], (by show (4 : Int) = hashInt 4; decide +kernel)⟩
  rcases List.mem_cons.mp hm with rfl | hm
  · exact ⟨9, by simp [PySem.intKind, Value.isInt], (by show (9 : Int) = hashInt 9; decide +kernel)⟩
  rcases List.mem_cons.mp hm with rfl | hm
  · exact ⟨16, by simp [PySem.intKind, Value.isInt], (by show (16 : Int) = hashInt 16; decide +kernel)⟩
  cases hm
theorem op_notIn_km (D : KMarks X.K d) : OpR X (compareOp .NotIn) (fun x y H Q => ∃ k v, x = .int k ∧ y = .ref d ∧ Root k v ∧ Q (.bl false) H) := by
  intro pins s σ H x y v u Q I rx ry h
  obtain ⟨k, r, rfl, rfl, hr, q⟩ := h
  obtain ⟨t, rfl⟩ := rx
  cases ry
  obtain ⟨x1, x2, x3, x4, y1, y2, y3, y4, hm⟩ := D.map I
  obtain ⟨tk, ef⟩ := root_find hr x1 x2 x3 x4 y1 y2 y3 y4
  refine wpAny_notIn_of (k := k) (by simp [PySem.intKind, Value.isInt]) D.low hm ?_
  rw [ef]
  exact ⟨.bl false, H, I.tok _, rfl, q⟩
theorem ix_km (D : KMarks X.K d) : IxR X (fun x y H Q => ∃ k v, x = .ref d ∧ y = .int k ∧ Root k v ∧ Q (.int v) H) := by
  intro value slice pins s σ H x y v u Q I rx ry h hs
  obtain ⟨k, r, rfl, rfl, hr, q⟩ := h
  obtain rfl : v = Value.ref d := rx
  obtain ⟨t, rfl⟩ := ry
  obtain ⟨x1, x2, x3, x4, y1, y2, y3, y4, hm⟩ := D.map I
  obtain ⟨tk, ef⟩ := root_find hr x1 x2 x3 x4 y1 y2 y3 y4
  exact tail_any hm.typeIs slot_dict_getitem.lookup (wpAny_getItem_of (k := k) (by simp [PySem.intKind, Value.isInt]) hm ef ⟨.int r, H, I.tok _, ⟨tk, rfl⟩, q⟩) hs
end
/-! len(x) by the own method -/
section
variable {X : Cx} {CX : CXT} {k : Nat} {C f : Addr} {fd : FuncData} {ps : List Str} {sp : Sp} {E : XK}
theorem call_lenOwn (hs : PySem.W.findIn X.K (.ref C) "__len__" = some (some (.ref f))) (hf : PySem.W.isFn X.K (.ref f) = true) (F : FnOk X.prog X.w X.K X.mg X.base CX k f fd ps sp) (hr : Room (k + 1) X.A) (hb : Binds X.K fd ps []) (hx : Passes CX X E) :
    CallR X (.builtin "len") (fun xs H Q => ∃ a dx fs, xs = [.ref a] ∧ H a = some (.ins C dx fs) ∧ sp [.ref a] H (fun v H' => ∃ n : Nat, v = .int n ∧ n ≤ 1000 ∧ Q (.int n) H') E) := by
  intro pins s σ H xs us Q I r h
  obtain ⟨a, dx, fs, rfl, ha, q⟩ := h
  obtain ⟨u, rfl, ru⟩ := vals1 r
  cases ru
  obtain ⟨mA, J, _⟩ := ins_get I.hok ha
  obtain ⟨od, J, _⟩ := J.look
  obtain ⟨m, hF⟩ := I.fr
  refine PySem.W.len_K hF I.ok.mod.kin J hs hf ?_
  have hl := F.len _ _ _ _ q
  have r2 : Vals [V.ref a] [Value.ref a] := .cons rfl .nil
  refine wpAny_call (codeAny_mono (F.run X.A.in1 X.stack s H ⟨[.ref a], []⟩ [.ref a] [.ref a] _ E hr.in1 I.env0.in1 (by
    have := hb s [.ref a] I.kIn (by simpa using hl)
    simpa using this) r2 q) fun r s' hq => ?_)
  cases r with
  | error e => exact hx pins σ H s e s' I hq
  | ok fl =>
    cases fl with
    | ret w =>
      obtain ⟨v, H', I', rv, n, rfl, hn, q'⟩ := I.after hq
      obtain ⟨t, rfl⟩ := rv
      exact ⟨⟨by omega, by omega⟩, .int n, H', I'.tok _, ⟨_, rfl⟩, q'⟩
    | next => exact False.elim hq
    | brk => exact False.elim hq
    | cont => exact False.elim hq
end
end L2

set_option maxHeartbeats 4000000
namespace PA
open PySem L2 RZ
open C8 (pss_cut tCut)
def top (i : Nat) : Stmt := PySem.Challenge.pw_pairahead_k13_whole_marked_rules.main.body.getD i (.Pass ⟨0, 0, 0, 0⟩)
abbrev sIsInt : Stmt := top 7
abbrev sBelow : Stmt := top 8
abbrev sInit : Stmt := inClass (top 33) 0
abbrev sStep : Stmt := inClass (top 33) 2
abbrev sLen : Stmt := inClass (top 33) 4
abbrev sCheck : Stmt := top 36
abbrev sIsRow : Stmt := top 37
/-! ### data -/
abbrev Rw := Int × Bool × Int × Bool
def rv (r : Rw) : List V := [.int r.1, .bl r.2.1, .int r.2.2.1, .bl r.2.2.2]
def RwOk (n : Nat) (r : Rw) : Prop := (0 ≤ r.1 ∧ r.1 < n) ∧ 0 ≤ r.2.2.1 ∧ r.2.2.1 < n
/-- what stands at each place of a list of references -/
def Each (H : Hp) (P : Hp → Addr → Rw → Prop) (xs : List V) (rows : List Rw) : Prop := xs.length = rows.length ∧ ∀ (i : Nat) (x : V) (r : Rw), xs[i]? = some x → rows[i]? = some r → ∃ c, x = .ref c ∧ P H c r
def isT (H : Hp) (c : Addr) (r : Rw) : Prop := H c = some (.tup (rv r))
def isLT (H : Hp) (c : Addr) (r : Rw) : Prop := H c = some (.tup (rv r)) ∨ H c = some (.lst (rv r))
theorem Each.imp {H H' : Hp} {P P' : Hp → Addr → Rw → Prop} {xs : List V} {rows : List Rw} (e : Each H P xs rows) (f : ∀ c r, P H c r → P' H' c r) : Each H' P' xs rows := ⟨e.1, fun i x r h1 h2 => let ⟨c, hx, q⟩ := e.2 i x r h1 h2; ⟨c, hx, f c r q⟩⟩
theorem Each.sameT {H H' : Hp} {xs : List V} {rows : List Rw} (e : Each H isT xs rows) (s : Same H H') : Each H' isT xs rows := e.imp fun c r q => s _ _ q
theorem Each.sameLT {H H' : Hp} {xs : List V} {rows : List Rw} (e : Each H isLT xs rows) (s : Same H H') : Each H' isLT xs rows := e.imp fun c r q => q.elim (fun q => .inl (s _ _ q)) fun q => .inr (s _ _ q)
theorem Each.nil {H : Hp} {P : Hp → Addr → Rw → Prop} : Each H P [] [] := ⟨rfl, fun i x r h _ => by simp at h⟩
theorem Each.push {H : Hp} {P : Hp → Addr → Rw → Prop} {xs : List V} {rows : List Rw} {c : Addr} {r : Rw} (e : Each H P xs rows) (q : P H c r) : Each H P (xs ++ [.ref c]) (rows ++ [r]) := by
  refine ⟨by rw [List.length_append, List.length_append, e.1]; rfl, fun i x r' h1 h2 => ?_⟩
  rcases Nat.lt_or_ge i xs.length with hi | hi
  · rw [List.getElem?_append_left hi] at h1
    rw [List.getElem?_append_left (by rw [← e.1]; exact hi)] at h2
    exact e.2 i x r' h1 h2
  · rw [List.getElem?_append_right hi] at h1
    rw [List.getElem?_append_right (by rw [← e.1]; exact hi), ← e.1] at h2
    cases hk : i - xs.length with
    | zero =>
      rw [hk] at h1 h2
      have h1' : V.ref c = x := by simpa using h1
      have h2' : r = r' := by simpa using h2
      exact ⟨c, h1'.symm, h2' ▸ q⟩
    | succ k =>
      rw [hk] at h1
      simp at h1
/-- a list is changed: tuples stay -/
theorem isT.lst {H : Hp} {c D : Addr} {r : Rw} {xs ys : List V} (q : isT H c r) (hD : H D = some (.lst xs)) : isT (upd H D (.lst ys)) c r := by
  unfold isT
  rw [upd_ne (ne_of (H := H) q hD (by intro z; cases z))]
  exact q
theorem take_succ' {α : Type} {l : List α} {i : Nat} {x : α} (h : l[i]? = some x) : l.take (i + 1) = l.take i ++ [x] := by
  rw [List.take_add_one, h]
  rfl
def rf (R S : Addr) (k : Int) : List (Str × V) := putF "marks" (.int k) (putF "starts" (.ref S) (putF "rows" (.ref R) []))
theorem rs_ : ¬ (("rows" : Str) = "starts") := by decide +kernel
theorem rm_ : ¬ (("rows" : Str) = "marks") := by decide +kernel
theorem sm_ : ¬ (("starts" : Str) = "marks") := by decide +kernel
theorem rf_rows (R S : Addr) (k : Int) : (rf R S k).lookup ("rows" : Str) = some (.ref R) := by
  unfold rf
  rw [lookup_putF, if_neg rm_, lookup_putF, if_neg rs_, lookup_putF, if_pos rfl]
theorem rf_starts (R S : Addr) (k : Int) : (rf R S k).lookup ("starts" : Str) = some (.ref S) := by
  unfold rf
  rw [lookup_putF, if_neg sm_, lookup_putF, if_pos rfl]
theorem rf_marks (R S : Addr) (k : Int) : (rf R S k).lookup ("marks" : Str) = some (.int k) := by
  unfold rf
  rw [lookup_putF, if_pos rfl]
theorem rf_no (R S : Addr) (k : Int) {m : Str} (h1 : ¬ m = "marks") (h2 : ¬ m = "starts") (h3 : ¬ m = "rows") : (rf R S k).lookup m = none := by
  unfold rf
  rw [lookup_putF, if_neg h1, lookup_putF, if_neg h2, lookup_putF, if_neg h3]
  all_goals rfl
/-- a Rule stands at p -/
def RuleAt (K : PySem.W.Frag) (C : Addr) (H : Hp) (p : Addr) (rows : List Rw) (starts : List Int) (k : Int) : Prop := ∃ dx R S refs, H p = some (.ins C dx (rf R S k)) ∧ H R = some (.tup refs) ∧ Each H isT refs rows ∧ SqT K H S (starts.map V.int)
theorem SqT.up {K : PySem.W.Frag} {H H' : Hp} {a : Addr} {xs : List V} (h : SqT K H a xs) (e : Same H H') : SqT K H' a xs :=
  h.elim (fun h => .inl (h.elim (fun h => .inl (e _ _ h)) fun ⟨o, h⟩ => .inr ⟨o, e _ _ h⟩)) fun h => .inr h
theorem RuleAt.same {K : PySem.W.Frag} {C : Addr} {H H' : Hp} {p : Addr} {rows : List Rw} {starts : List Int} {k : Int} (r : RuleAt K C H p rows starts k) (s : Same H H') : RuleAt K C H' p rows starts k := by
  obtain ⟨dx, R, S, refs, h1, h2, h3, h4⟩ := r
  exact ⟨dx, R, S, refs, s _ _ h1, s _ _ h2, h3.sameT s, SqT.up h4 s⟩
structure Txt (K : PySem.W.Frag) (mg : Str → Option Value) (C : Addr) : Prop where
  cl : Cls K C
  nR : NoAttr K C "rows"
  nS : NoAttr K C "starts"
  nM : NoAttr K C "marks"
  mgC : mg "Rule" = some (.ref C)
  isi : mg "isinstance" = none
  int_ : mg "int" = none
  bool_ : mg "bool" = none
  list_ : mg "list" = none
  tup_ : mg "tuple" = none
  len_ : mg "len" = none
  all_ : mg "all" = none
  zip_ : mg "zip" = none
  range_ : mg "range" = none
  most : ∃ t, mg "MOST_ROWS" = some (.int 48 t)
  marks : ∃ d, mg "MARKS_OF_STARTS" = some (.ref d) ∧ KMarks K d
theorem boot_isi : bootBuiltins "isinstance" = some (.builtin "isinstance") := by decide +kernel
theorem boot_int' : bootBuiltins "int" = some (.type "int") := by decide +kernel
theorem boot_bool' : bootBuiltins "bool" = some (.type "bool") := by decide +kernel
theorem boot_tuple' : bootBuiltins "tuple" = some (.type "tuple") := by decide +kernel
theorem boot_list' : bootBuiltins "list" = some (.type "list") := by decide +kernel
theorem boot_all' : bootBuiltins "all" = some (.builtin "all") := by decide +kernel
structure Df (K : PySem.W.Frag) (mg : Str → Option Value) (x : Str) (st : Stmt) (f : Addr) (fd : FuncData) (ps : List Str) : Prop where
  F : Fun K x x st f fd
  B : Binds K fd ps []
  M : mg x = some (.ref f)
/-! ### promises -/
def spIsInt : Sp := fun vs H Q _ => ∃ i, vs = [.int i] ∧ Q (.bl true) H
def spBelow : Sp := fun vs H Q _ => ∃ v c : Int, vs = [.int v, .int c] ∧ 0 ≤ v ∧ v < c ∧ Q (.bl true) H
def spIsRow : Sp := fun vs H Q _ => ∃ (p : Addr) (r : Rw) (n : Nat), vs = [.ref p, .int (n : Int)] ∧ isT H p r ∧ RwOk n r ∧ Q (.bl true) H
def spCheck (K : PySem.W.Frag) : Sp := fun vs H Q _ => ∃ (R S : Addr) (refs : List V) (rows : List Rw) (starts : List Int) (k : Int), vs = [.ref R, .ref S] ∧ H R = some (.tup refs) ∧ Each H isT refs rows ∧ SqT K H S (starts.map V.int) ∧
  1 ≤ rows.length ∧ rows.length ≤ 48 ∧ (∀ r ∈ rows, RwOk rows.length r) ∧ Root (starts.length : Int) k ∧ (∀ s ∈ starts, 0 ≤ s ∧ s < (rows.length : Int)) ∧ ∀ H', Same H H' → Q .non H'
section
variable {P : Program} {w : World} {K : PySem.W.Frag} {mg : Str → Option Value} {base : Heap} {C : Addr}
theorem ifD_no {p A B : Prop} [Decidable p] (h : ¬ p) (q : B) : if decide p = true then A else B := by
  rw [decide_eq_false h]
  exact iteF q
theorem ifD_yes {p A B : Prop} [Decidable p] (h : p) (q : A) : if decide p = true then A else B := by
  rw [decide_eq_true h]
  exact iteT q
theorem ifD_2 {p A B : Prop} [Decidable p] (h1 : p → A) (h2 : ¬ p → B) : if decide p = true then A else B := by
  by_cases h : p
  · exact ifD_yes h (h1 h)
  · exact ifD_no h (h2 h)
theorem Same.new {H : Hp} {p : Addr} {o : HO} (hp : H p = none) : Same H (upd H p o) := fun b u e => by
  rw [upd_ne (ne_of_none e hp)]
  exact e
theorem scIsInt : FnScope ["value"] ["value"] (defScope sIsInt) := ⟨rfl, rfl, rfl, by decide +kernel, rfl, by decide +kernel, by decide +kernel⟩
theorem ok_isInt {f : Addr} {fd : FuncData} (F : Fun K "is_integer" "is_integer" sIsInt f fd) (T : Txt K mg C) : FnOk P w K mg base CX0 1 f fd ["value"] spIsInt := by
  refine F.ok scIsInt (fun vs H Q E h => ?_) (fun cdv A outer s H vs Q E hr h => ?_)
  · obtain ⟨i, rfl, _⟩ := h
    rfl
  · obtain ⟨i, rfl, k⟩ := h
    refine ⟨_, pss_one (ps_ret (pe_and (pe_callB call_isi (by rfl) T.isi boot_isi (pa_cons (pv 0) (pa_cons (pe_bltn (v := .ty "int") (by rfl) T.int_ boot_int' rfl) pa_nil)))
      (pe_one (pe_not (pe_callB call_isi (by rfl) T.isi boot_isi (pa_cons (pv 0) (pa_cons (pe_bltn (v := .ty "bool") (by rfl) T.bool_ boot_bool' rfl) pa_nil))))))), ?_⟩
    refine ⟨_, rfl, _, _, _, _, _, rfl, .ty _, .base (.int i), kit_ty (b := "int") (r := true) (by decide +kernel), _, rfl, iteT ?_⟩
    exact ⟨_, rfl, _, _, _, _, _, rfl, .ty _, .base (.int i), kit_ty (b := "bool") (r := false) (by decide +kernel), _, rfl, k⟩
theorem scBelow : FnScope ["value", "count"] ["value", "count"] (defScope sBelow) := ⟨rfl, rfl, rfl, by decide +kernel, rfl, by decide +kernel, by decide +kernel⟩
theorem ok_below {f g : Addr} {fd gd : FuncData} (F : Fun K "is_below" "is_below" sBelow f fd) (T : Txt K mg C) (D : Df K mg "is_integer" sIsInt g gd ["value"]) : FnOk P w K mg base CX0 2 f fd ["value", "count"] spBelow := by
  have G : FnOk P w K mg base CX0 1 g gd ["value"] spIsInt := ok_isInt D.F T
  refine F.ok scBelow (fun vs H Q E h => ?_) (fun cdv A outer s H vs Q E hr h => ?_)
  · obtain ⟨v, c, rfl, _⟩ := h
    rfl
  · obtain ⟨v, c, rfl, h0, h1, k⟩ := h
    refine ⟨_, pss_one (ps_ret (pe_and (pe_call G hr rfl D.M D.F.kp D.B .nil pass0 (pa_cons (pv 0) pa_nil)) (pe_one (pe_chain op_le op_lt pe_int (pv 0) (pv 1))))), ?_⟩
    refine ⟨_, rfl, v, rfl, _, rfl, iteT ?_⟩
    refine ⟨_, rfl, _, _, rfl, rfl, _, rfl, ifD_yes h0 ⟨_, rfl, _, _, rfl, rfl, ?_⟩⟩
    show Q (V.bl (decide (v < c))) H
    rw [decide_eq_true h1]
    exact k
theorem scIsRow : FnScope ["row", "count", "next_ahead", "falls", "next_behind", "goes"] ["row", "count"] (defScope sIsRow) := ⟨rfl, rfl, rfl, by decide +kernel, rfl, by decide +kernel, by decide +kernel⟩
theorem ok_isRow {f g1 g2 : Addr} {fd gd1 gd2 : FuncData} (F : Fun K "_is_row" "_is_row" sIsRow f fd) (T : Txt K mg C) (D1 : Df K mg "is_integer" sIsInt g1 gd1 ["value"]) (D2 : Df K mg "is_below" sBelow g2 gd2 ["value", "count"]) : FnOk P w K mg base CX0 3 f fd ["row", "count"] spIsRow := by
  have G : FnOk P w K mg base CX0 2 g2 gd2 ["value", "count"] spBelow := ok_below D2.F T D1
  refine F.ok scIsRow (fun vs H Q E h => ?_) (fun cdv A outer s H vs Q E hr h => ?_)
  · obtain ⟨p, r, n, rfl, _⟩ := h
    rfl
  · obtain ⟨p, ⟨a, fl, b, go⟩, n, rfl, hp, ⟨⟨a0, a1⟩, b0, b1⟩, k⟩ := h
    refine ⟨_, pss_cons (ps_if (pt_cmpR op_ne (pe_callB call_len_seq (by rfl) T.len_ PySem.boot_len (pa_cons (pv 0) pa_nil)) pe_int (nomark _)) pss_never pss_nil)
      (pss_cons (ps_asg (pv 0) (pg_tup rfl (pgs_cons (pg_name (i := 2) scIsRow.nd rfl (Or.inl rfl)) (pgs_cons (pg_name (i := 3) scIsRow.nd rfl (Or.inl rfl)) (pgs_cons (pg_name (i := 4) scIsRow.nd rfl (Or.inl rfl)) (pgs_cons (pg_name (i := 5) scIsRow.nd rfl (Or.inl rfl)) pgs_nil))))))
      (pss_cons (ps_if (PW.pt (pw_or (pt_not (pt_val (pe_call G hr rfl D2.M D2.F.kp D2.B .nil pass0 (pa_cons (pv 2) (pa_cons (pv 1) pa_nil))))) (pw_or1 (pt_not (pt_val (pe_call G hr rfl D2.M D2.F.kp D2.B .nil pass0 (pa_cons (pv 4) (pa_cons (pv 1) pa_nil)))))))) pss_never pss_nil)
      (pss_one (ps_ret (pe_and (pe_callB call_isi (by rfl) T.isi boot_isi (pa_cons (pv 3) (pa_cons (pe_bltn (v := .ty "bool") (by rfl) T.bool_ boot_bool' rfl) pa_nil))) (pe_one (pe_callB call_isi (by rfl) T.isi boot_isi (pa_cons (pv 5) (pa_cons (pe_bltn (v := .ty "bool") (by rfl) T.bool_ boot_bool' rfl) pa_nil))))))))), ?_⟩
    refine ⟨_, rfl, p, _, rfl, .inr (SqT.of hp), rfl, _, rfl, iteNS rfl ?_⟩
    refine ⟨_, rfl, p, _, rfl, SqT.of hp, rfl, _, _, rfl, _, _, rfl, _, _, rfl, _, _, rfl, rfl, ?_⟩
    refine ⟨_, rfl, _, rfl, a, _, rfl, a0, a1, _, rfl, iteF ?_⟩
    refine ⟨_, rfl, _, rfl, b, _, rfl, b0, b1, _, rfl, iteF ?_⟩
    refine ⟨_, rfl, _, _, _, _, _, rfl, .ty _, .base (.bl fl), kit_ty (b := "bool") (r := true) (by decide +kernel), _, rfl, iteT ?_⟩
    exact ⟨_, rfl, _, _, _, _, _, rfl, .ty _, .base (.bl go), kit_ty (b := "bool") (r := true) (by decide +kernel), k⟩
end
end PA

set_option maxHeartbeats 4000000
namespace PA
open PySem L2 RZ
open C8 (pss_cut tCut)
/-- the list of what was made so far: all true -/
theorem all_true (n : Nat) : (List.replicate n true).all id = true := by
  rw [List.all_eq_true]
  intro x hx
  rw [(List.mem_replicate.mp hx).2]
  rfl
def rLenK (K : PySem.W.Frag) : List V → Hp → (V → Hp → Prop) → Prop := fun xs H Q => ∃ p ys, xs = [.ref p] ∧ (SqL K H p ys ∨ SqT K H p ys) ∧ Q (.int ys.length) H
theorem call_lenK {X : Cx} {K : PySem.W.Frag} (h : X.K = K) : CallR X (.builtin "len") (rLenK K) := h ▸ call_len_seq
theorem root_le {n k : Int} (r : Root n k) : n ≤ 16 := by
  cases r <;> decide
section
variable {P : Program} {w : World} {K : PySem.W.Frag} {mg : Str → Option Value} {base : Heap} {C : Addr}
theorem scCheck : FnScope ["rows", "starts", "row", "state"] ["rows", "starts"] (defScope sCheck) := ⟨rfl, rfl, rfl, by decide +kernel, rfl, by decide +kernel, by decide +kernel⟩
theorem ok_check {f g1 g2 g3 : Addr} {fd gd1 gd2 gd3 : FuncData} (F : Fun K "_check_table" "_check_table" sCheck f fd) (T : Txt K mg C) (D1 : Df K mg "is_integer" sIsInt g1 gd1 ["value"]) (D2 : Df K mg "is_below" sBelow g2 gd2 ["value", "count"]) (D3 : Df K mg "_is_row" sIsRow g3 gd3 ["row", "count"]) : FnOk P w K mg base CX0 4 f fd ["rows", "starts"] (spCheck K) := by
  have G2 : FnOk P w K mg base CX0 3 g2 gd2 ["value", "count"] spBelow := (ok_below D2.F T D1).mono (by decide)
  have G3 : FnOk P w K mg base CX0 3 g3 gd3 ["row", "count"] spIsRow := ok_isRow D3.F T D1 D2
  obtain ⟨tm, hmost⟩ := T.most
  obtain ⟨dm, hdm, km⟩ := T.marks
  refine F.ok scCheck (fun vs H Q E h => ?_) (fun cdv A outer s H vs Q E hr h => ?_)
  · obtain ⟨R, S, _, _, _, _, rfl, _⟩ := h
    rfl
  · obtain ⟨R, S, refs, rows, starts, k, rfl, hR, hE, hS, h1, h48, hok, hroot, hst, kk⟩ := h
    refine ⟨_, pss_cons (ps_if (pt_not (pt_chain op_le op_le pe_int (pe_callB call_len_seq (by rfl) T.len_ PySem.boot_len (pa_cons (pv 0) pa_nil)) (pe_glob (v := .int 48) rfl hmost ⟨_, rfl⟩))) pss_never pss_nil)
      (pss_cons (ps_if (pt_not (pt_val (pe_callB (cr_all rfl) (by rfl) T.all_ boot_all' (pa_cons (pe_lc (own := [("row", 2)]) (g := gName 2) (tt := tYes) (by rfl) scCheck.nd (pi_tup (pv 0)) (blkOk_by (N := ["rows", "starts", "row", "state"]) (sc := defScope sCheck) (by decide +kernel))
          (fun _ _ _ _ _ => pg_name (i := 2) scCheck.nd rfl (Or.inl rfl)) (fun _ _ _ _ _ => pts_nil)
          (fun _ _ _ _ _ => pe_call G3 hr rfl D3.M D3.F.kp D3.B .nil pass0 (pa_cons (pv 2) (pa_cons (pe_callB (call_lenK (K := K) rfl) (by rfl) T.len_ PySem.boot_len (pa_cons (pv 0) pa_nil)) pa_nil)))) pa_nil)))) pss_never pss_nil)
      (pss_cons (ps_if (pt_cmpR (op_notIn_km km) (pe_callB call_len_seq (by rfl) T.len_ PySem.boot_len (pa_cons (pv 1) pa_nil)) (pe_glob (v := .ref dm) rfl hdm rfl) rfl) pss_never pss_nil)
      (pss_one (ps_if (pt_not (pt_val (pe_callB (cr_all rfl) (by rfl) T.all_ boot_all' (pa_cons (pe_lc (own := [("state", 3)]) (g := gName 3) (tt := tYes) (by rfl) scCheck.nd (pi_tup (pv 1)) (blkOk_by (N := ["rows", "starts", "row", "state"]) (sc := defScope sCheck) (by decide +kernel))
          (fun _ _ _ _ _ => pg_name (i := 3) scCheck.nd rfl (Or.inl rfl)) (fun _ _ _ _ _ => pts_nil)
          (fun _ _ _ _ _ => pe_call G2 hr rfl D2.M D2.F.kp D2.B .nil pass0 (pa_cons (pv 3) (pa_cons (pe_callB (call_lenK (K := K) rfl) (by rfl) T.len_ PySem.boot_len (pa_cons (pv 0) pa_nil)) pa_nil)))) pa_nil)))) pss_never pss_nil)))), ?_⟩
    have hlr : refs.length = rows.length := hE.1
    refine ⟨_, rfl, ?_⟩
    refine ⟨R, _, rfl, .inr (SqT.of hR), _, _, rfl, rfl, _, rfl, ifD_yes (by rw [hlr]; omega) ?_⟩
    refine ⟨_, _, rfl, rfl, _, rfl, ?_⟩
    rw [hlr]
    have h48' : ((rows.length : Int) ≤ 48) := by omega
    rw [decide_eq_true h48']
    refine iteF ?_
    refine ⟨_, rfl, R, rfl, ⟨_, SqT.of hR⟩, fun Dd hD => ?_⟩
    refine lc_tup (K := K) (a := R) (xs := refs) (fun i H' => Same H H' ∧ H' Dd = some (.lst ((List.replicate i true).map V.bl))) ⟨Same.new hD, upd_same⟩ (fun i H' _ q => SqT.of (q.1 _ _ hR)) ?_ ?_
    · rintro i x H' hx ⟨sm, hd⟩
      have hi : i < rows.length := by rw [← hlr]; exact (List.getElem?_eq_some_iff.mp hx).1
      have hr' : rows[i]? = some rows[i] := List.getElem?_eq_getElem hi
      obtain ⟨c, rfl, hc⟩ := hE.2 i x _ hx hr'
      refine ⟨rfl, ?_⟩
      dsimp only [tYes]
      rw [if_pos rfl]
      refine ⟨_, rfl, _, rfl, R, _, rfl, .inr (SqT.of (sm _ _ hR)), c, rows[i], rows.length, congrArg (fun z : Nat => [V.ref c, V.int (z : Int)]) hlr, sm _ _ hc, hok _ (List.getElem_mem hi), ?_⟩
      refine ⟨_, hd, ?_, ?_, ?_⟩
      · rw [List.length_map, List.length_replicate]
        exact Nat.lt_of_lt_of_le hi (Nat.le_trans h48 (by decide))
      · intro c o e
        rw [upd_ne (ne_of_none e hD)]
        exact sm _ _ e
      · rw [upd_same, List.replicate_succ', List.map_append]
        rfl
    rintro H1 ⟨s1, hd1⟩
    refine ⟨Dd, _, rfl, SqL.of hd1, ?_⟩
    rw [all_true]
    refine ⟨true, rfl, iteF ?_⟩
    have hS1 := SqT.up hS s1
    refine ⟨_, rfl, S, _, rfl, .inr hS1, (starts.length : Int), k, ?_, rfl, hroot, _, rfl, iteF ?_⟩
    · show V.int (((starts.map V.int).length : Nat) : Int) = _
      rw [List.length_map]
    refine ⟨_, rfl, S, rfl, ⟨_, hS1⟩, fun De hE' => ?_⟩
    refine lc_tup (K := K) (a := S) (xs := starts.map V.int) (fun i H' => Same H1 H' ∧ H' De = some (.lst ((List.replicate i true).map V.bl))) ⟨Same.new hE', upd_same⟩ (fun i H' _ q => SqT.up hS1 q.1) ?_ ?_
    · rintro i x H' hx ⟨sm, hd⟩
      rw [List.getElem?_map, Option.map_eq_some_iff] at hx
      obtain ⟨z, hz, rfl⟩ := hx
      have hz' := hst z (List.mem_of_getElem? hz)
      refine ⟨rfl, ?_⟩
      dsimp only [tYes]
      rw [if_pos rfl]
      refine ⟨_, rfl, _, rfl, R, _, rfl, .inr (SqT.of (sm _ _ (s1 _ _ hR))), z, (rows.length : Int), congrArg (fun y : Nat => [V.int z, V.int (y : Int)]) hlr, hz'.1, hz'.2, ?_⟩
      refine ⟨_, hd, ?_, ?_, ?_⟩
      · rw [List.length_map, List.length_replicate]
        have : starts.length ≤ 16 := by
          have := root_le hroot
          omega
        have hi := (List.getElem?_eq_some_iff.mp hz).1
        exact Nat.lt_of_lt_of_le (Nat.lt_of_lt_of_le hi this) (by decide)
      · intro c o e
        rw [upd_ne (ne_of_none e hE')]
        exact sm _ _ e
      · rw [upd_same, List.replicate_succ', List.map_append]
        rfl
    rintro H2 ⟨s2, hd2⟩
    refine ⟨De, _, rfl, SqL.of hd2, ?_⟩
    rw [all_true]
    refine ⟨true, rfl, iteF ?_⟩
    exact kk _ (s1.trans s2)
end
end PA

set_option maxHeartbeats 4000000

namespace PA
open PySem L2 RZ
open C8 (pss_cut tCut)
/-- a list or a tuple -/
def Sq (K : PySem.W.Frag) (H : Hp) (a : Addr) (xs : List V) : Prop := SqL K H a xs ∨ SqT K H a xs
theorem SqL.up {K : PySem.W.Frag} {H H' : Hp} {a : Addr} {xs : List V} (h : SqL K H a xs) (e : Same H H') : SqL K H' a xs :=
  h.elim (fun h => .inl (h.elim (fun h => .inl (e _ _ h)) fun ⟨o, h⟩ => .inr ⟨o, e _ _ h⟩)) fun h => .inr h
theorem Sq.up {K : PySem.W.Frag} {H H' : Hp} {a : Addr} {xs : List V} (h : Sq K H a xs) (e : Same H H') : Sq K H' a xs := h.imp (fun h => SqL.up h e) fun h => SqT.up h e
theorem isLT.sq {K : PySem.W.Frag} {H : Hp} {c : Addr} {r : Rw} (h : isLT H c r) : Sq K H c (rv r) := h.elim (fun h => .inr (SqT.of h)) fun h => .inl (SqL.of h)
theorem isT.ins {H : Hp} {c p C dx : Addr} {fs : List (Str × V)} {o : HO} {r : Rw} (q : isT H c r) (hp : H p = some (.ins C dx fs)) : isT (upd H p o) c r := by
  unfold isT
  rw [upd_ne (ne_of (H := H) q hp (by intro z; cases z))]
  exact q
theorem SqT.keep {K : PySem.W.Frag} {H H' : Hp} {a p C dx : Addr} {fs : List (Str × V)} {xs : List V} (h : SqT K H a xs) (hp : H p = some (.ins C dx fs)) (kp : ∀ c o, H c = some o → c ≠ p → H' c = some o) : SqT K H' a xs := by
  rcases h with (h | ⟨ob, h⟩) | h
  · exact .inl (.inl (kp _ _ h (ne_of h hp (by intro z; cases z))))
  · exact .inl (.inr ⟨ob, kp _ _ h (ne_of h hp (by intro z; cases z))⟩)
  · exact .inr h
theorem SqL.keep {K : PySem.W.Frag} {H H' : Hp} {a p C dx : Addr} {fs : List (Str × V)} {xs : List V} (h : SqL K H a xs) (hp : H p = some (.ins C dx fs)) (kp : ∀ c o, H c = some o → c ≠ p → H' c = some o) : SqL K H' a xs := by
  rcases h with (h | ⟨ob, h⟩) | h
  · exact .inl (.inl (kp _ _ h (ne_of h hp (by intro z; cases z))))
  · exact .inl (.inr ⟨ob, kp _ _ h (ne_of h hp (by intro z; cases z))⟩)
  · exact .inr h
theorem Sq.keep {K : PySem.W.Frag} {H H' : Hp} {a p C dx : Addr} {fs : List (Str × V)} {xs : List V} (h : Sq K H a xs) (hp : H p = some (.ins C dx fs)) (kp : ∀ c o, H c = some o → c ≠ p → H' c = some o) : Sq K H' a xs := h.imp (fun h => SqL.keep h hp kp) fun h => SqT.keep h hp kp
theorem SqT.ins {K : PySem.W.Frag} {H : Hp} {a p C dx : Addr} {fs : List (Str × V)} {xs : List V} {o : HO} (h : SqT K H a xs) (hp : H p = some (.ins C dx fs)) : SqT K (upd H p o) a xs := SqT.keep h hp fun c o e hc => by rw [upd_ne hc]; exact e
theorem rf2_rows (R S : Addr) : (putF "starts" (.ref S) (putF "rows" (.ref R) [])).lookup ("rows" : Str) = some (V.ref R) := by
  rw [lookup_putF, if_neg rs_, lookup_putF, if_pos rfl]
theorem rf2_starts (R S : Addr) : (putF "starts" (.ref S) (putF "rows" (.ref R) [])).lookup ("starts" : Str) = some (V.ref S) := by
  rw [lookup_putF, if_pos rfl]
/-- what is good for a Rule -/
structure Good (rows : List Rw) (starts : List Int) (k : Int) : Prop where
  one : 1 ≤ rows.length
  most : rows.length ≤ 48
  ok : ∀ r ∈ rows, RwOk rows.length r
  root : Root (starts.length : Int) k
  st : ∀ s ∈ starts, 0 ≤ s ∧ s < (rows.length : Int)
def spInit (K : PySem.W.Frag) (C : Addr) : Sp := fun vs H Q _ => ∃ (p dx G S : Addr) (refs : List V) (rows : List Rw) (starts : List Int) (k : Int), vs = [.ref p, .ref G, .ref S] ∧ H p = some (.ins C dx []) ∧
  Sq K H G refs ∧ Each H isLT refs rows ∧ Sq K H S (starts.map V.int) ∧ Good rows starts k ∧
  ∀ H', (∃ R S' refs', H' p = some (.ins C dx (rf R S' k)) ∧ H' R = some (.tup refs') ∧ Each H' isT refs' rows ∧ SqT K H' S' (starts.map V.int)) → (∀ c o, H c = some o → c ≠ p → H' c = some o) → Q .non H'
abbrev FunI (K : PySem.W.Frag) (f : Addr) (fd : FuncData) (dd : Addr) : Prop := FunD K "__init__" "Rule.__init__" (defArgs sInit) (defBody sInit) (defScope sInit) [V.ref dd] [] f fd
def rTupK (K : PySem.W.Frag) : List V → Hp → (V → Hp → Prop) → Prop := fun xs H Q => ∃ p ys, xs = [.ref p] ∧ ((SqL K H p ys ∧ ∀ l, H l = none → Q (.ref l) (upd H l (.tup ys))) ∨ (SqT K H p ys ∧ Q (.ref p) H))
theorem call_tupleK {X : Cx} {K : PySem.W.Frag} (h : X.K = K) : CallR X (.type "tuple") (rTupK K) := h ▸ call_tuple_of
section
variable {P : Program} {w : World} {K : PySem.W.Frag} {mg : Str → Option Value} {base : Heap} {C : Addr}
theorem scInit : FnScope ["self", "rows", "starts", "row"] ["self", "rows", "starts"] (defScope sInit) := ⟨rfl, rfl, rfl, by decide +kernel, rfl, by decide +kernel, by decide +kernel⟩
theorem ok_init {f g1 g2 g3 g4 dd : Addr} {fd gd1 gd2 gd3 gd4 : FuncData} (F : FunI K f fd dd) (T : Txt K mg C) (D1 : Df K mg "is_integer" sIsInt g1 gd1 ["value"]) (D2 : Df K mg "is_below" sBelow g2 gd2 ["value", "count"]) (D3 : Df K mg "_is_row" sIsRow g3 gd3 ["row", "count"]) (D4 : Df K mg "_check_table" sCheck g4 gd4 ["rows", "starts"]) : FnOk P w K mg base CX0 5 f fd ["self", "rows", "starts"] (spInit K C) := by
  have G4 : FnOk P w K mg base CX0 4 g4 gd4 ["rows", "starts"] (spCheck K) := ok_check D4.F T D1 D2 D3
  obtain ⟨dm, hdm, km⟩ := T.marks
  refine F.ok scInit (fun vs H Q E h => ?_) (fun cdv A outer s H vs Q E hr h => ?_)
  · obtain ⟨p, dx, G, S, _, _, _, _, rfl, _⟩ := h
    rfl
  · obtain ⟨p, dx, G, S, refs, rows, starts, k, rfl, hp, hG, hE, hS, gd, kk⟩ := h
    refine ⟨_, pss_cut (ps_fld (pv 0) (pe_callTy call_tuple_of (by rfl) T.tup_ boot_tuple' (pa_cons (pe_lc (own := [("row", 3)]) (g := gName 3) (tt := tYes) (by rfl) scInit.nd ((pi_list (pv 1)).or (pi_tup (pv 1))) (blkOk_by (N := ["self", "rows", "starts", "row"]) (sc := defScope sInit) (by decide +kernel))
          (fun _ _ _ _ _ => pg_name (i := 3) scInit.nd rfl (Or.inl rfl)) (fun _ _ _ _ _ => pts_nil)
          (fun _ _ _ _ _ => pe_callTy (call_tupleK (K := K) rfl) (by rfl) T.tup_ boot_tuple' (pa_cons (pv 3) pa_nil))) pa_nil)) rfl)
      (pss_cut (ps_fld (pv 0) (pe_callTy call_tuple_of (by rfl) T.tup_ boot_tuple' (pa_cons (pv 2) pa_nil)) rfl)
      (pss_cons (ps_expr (pe_call G4 hr rfl D4.M D4.F.kp D4.B .nil pass0 (pa_cons (pe_fld (pv 0) rfl) (pa_cons (pe_fld (pv 0) rfl) pa_nil))))
      (pss_one (ps_fld (pv 0) (pe_ix (ix_km km) (pe_glob (v := .ref dm) rfl hdm rfl) (pe_callB call_len_seq (by rfl) T.len_ PySem.boot_len (pa_cons (pe_fld (pv 0) rfl) pa_nil)) (fun _ _ => rfl)) rfl)))), ?_⟩
    have hlr : refs.length = rows.length := hE.1
    refine ⟨fun σ' H' => σ' = [some (.ref p), some (.ref G), some (.ref S), none] ∧ ∃ R refs', H' p = some (.ins C dx (putF "rows" (.ref R) [])) ∧ H' R = some (.tup refs') ∧ Each H' isT refs' rows ∧ (∀ c o, H c = some o → c ≠ p → H' c = some o), ?_, ?_⟩
    rcases hG with hG | hG
    · refine .inl ⟨_, rfl, G, rfl, ⟨_, hG⟩, fun Dd hD => ?_⟩
      refine lc_list (K := K) (a := G) (xs := refs) (fun i H' => Same H H' ∧ ∃ acc, H' Dd = some (.lst acc) ∧ Each H' isT acc (rows.take i)) ⟨Same.new hD, [], upd_same, by rw [List.take_zero]; exact Each.nil⟩ (fun i H' _ q => SqL.up hG q.1) ?_ ?_
      · rintro i x H' hx ⟨sm, acc, hd, he⟩
        have hi : i < rows.length := by rw [← hlr]; exact (List.getElem?_eq_some_iff.mp hx).1
        have hr' : rows[i]? = some rows[i] := List.getElem?_eq_getElem hi
        obtain ⟨c, rfl, hc⟩ := hE.2 i x _ hx hr'
        have hal : acc.length < sizeLine := by
          rw [he.1, List.length_take]
          exact Nat.lt_of_le_of_lt (Nat.le_trans (Nat.min_le_left _ _) (Nat.le_of_lt hi)) (Nat.lt_of_le_of_lt gd.most (by decide))
        refine ⟨rfl, ?_⟩
        dsimp only [tYes]
        rw [if_pos rfl]
        rcases hc with hc | hc
        · refine ⟨_, rfl, c, _, rfl, .inr ⟨SqT.of (sm _ _ hc), acc, hd, hal, ?_, _, upd_same, ?_⟩⟩
          · intro c' o e
            rw [upd_ne (ne_of_none e hD)]
            exact sm _ _ e
          · rw [take_succ' hr']
            exact Each.push (he.imp fun c' r' q => q.lst hd) ((show isT H' c rows[i] from sm _ _ hc).lst hd)
        · refine ⟨_, rfl, c, _, rfl, .inl ⟨SqL.of (sm _ _ hc), fun l hl => ⟨acc, ?_, hal, ?_, _, upd_same, ?_⟩⟩⟩
          · rw [upd_ne (ne_of_none hd hl)]
            exact hd
          · intro c' o e
            rw [upd_ne (ne_of_none e hD), upd_ne (ne_of_none (sm _ _ e) hl)]
            exact sm _ _ e
          · have hd' : (upd H' l (.tup (rv rows[i]))) Dd = some (.lst acc) := by rw [upd_ne (ne_of_none hd hl)]; exact hd
            rw [take_succ' hr']
            exact Each.push ((he.sameT (Same.new hl)).imp fun c' r' q => q.lst hd') ((show isT (upd H' l (.tup (rv rows[i]))) l rows[i] from upd_same).lst hd')
      rintro H1 ⟨s1, acc, hd, he⟩
      rw [hlr, List.take_length] at he
      refine ⟨Dd, _, rfl, .inl ⟨SqL.of hd, fun l hl => ?_⟩⟩
      have hp1 : (upd H1 l (.tup acc)) p = some (.ins C dx []) := by rw [upd_ne (ne_of_none (s1 _ _ hp) hl)]; exact s1 _ _ hp
      refine ⟨_, rfl, p, C, dx, _, rfl, hp1, T.cl, T.nR, (by show 0 < 1000; decide), rfl, l, acc, upd_same, ?_, ?_, ?_⟩
      · rw [upd_ne (ne_of hp1 upd_same (by intro z; cases z)).symm]
        exact upd_same
      · exact (he.sameT (Same.new hl)).imp fun c' r' q => isT.ins q hp1
      · intro c o e hc
        rw [upd_ne hc, upd_ne (ne_of_none (s1 _ _ e) hl)]
        exact s1 _ _ e
    · refine .inr ⟨_, rfl, G, rfl, ⟨_, hG⟩, fun Dd hD => ?_⟩
      refine lc_tup (K := K) (a := G) (xs := refs) (fun i H' => Same H H' ∧ ∃ acc, H' Dd = some (.lst acc) ∧ Each H' isT acc (rows.take i)) ⟨Same.new hD, [], upd_same, by rw [List.take_zero]; exact Each.nil⟩ (fun i H' _ q => SqT.up hG q.1) ?_ ?_
      · rintro i x H' hx ⟨sm, acc, hd, he⟩
        have hi : i < rows.length := by rw [← hlr]; exact (List.getElem?_eq_some_iff.mp hx).1
        have hr' : rows[i]? = some rows[i] := List.getElem?_eq_getElem hi
        obtain ⟨c, rfl, hc⟩ := hE.2 i x _ hx hr'
        have hal : acc.length < sizeLine := by
          rw [he.1, List.length_take]
          exact Nat.lt_of_le_of_lt (Nat.le_trans (Nat.min_le_left _ _) (Nat.le_of_lt hi)) (Nat.lt_of_le_of_lt gd.most (by decide))
        refine ⟨rfl, ?_⟩
        dsimp only [tYes]
        rw [if_pos rfl]
        rcases hc with hc | hc
        · refine ⟨_, rfl, c, _, rfl, .inr ⟨SqT.of (sm _ _ hc), acc, hd, hal, ?_, _, upd_same, ?_⟩⟩
          · intro c' o e
            rw [upd_ne (ne_of_none e hD)]
            exact sm _ _ e
          · rw [take_succ' hr']
            exact Each.push (he.imp fun c' r' q => q.lst hd) ((show isT H' c rows[i] from sm _ _ hc).lst hd)
        · refine ⟨_, rfl, c, _, rfl, .inl ⟨SqL.of (sm _ _ hc), fun l hl => ⟨acc, ?_, hal, ?_, _, upd_same, ?_⟩⟩⟩
          · rw [upd_ne (ne_of_none hd hl)]
            exact hd
          · intro c' o e
            rw [upd_ne (ne_of_none e hD), upd_ne (ne_of_none (sm _ _ e) hl)]
            exact sm _ _ e
          · have hd' : (upd H' l (.tup (rv rows[i]))) Dd = some (.lst acc) := by rw [upd_ne (ne_of_none hd hl)]; exact hd
            rw [take_succ' hr']
            exact Each.push ((he.sameT (Same.new hl)).imp fun c' r' q => q.lst hd') ((show isT (upd H' l (.tup (rv rows[i]))) l rows[i] from upd_same).lst hd')
      rintro H1 ⟨s1, acc, hd, he⟩
      rw [hlr, List.take_length] at he
      refine ⟨Dd, _, rfl, .inl ⟨SqL.of hd, fun l hl => ?_⟩⟩
      have hp1 : (upd H1 l (.tup acc)) p = some (.ins C dx []) := by rw [upd_ne (ne_of_none (s1 _ _ hp) hl)]; exact s1 _ _ hp
      refine ⟨_, rfl, p, C, dx, _, rfl, hp1, T.cl, T.nR, (by show 0 < 1000; decide), rfl, l, acc, upd_same, ?_, ?_, ?_⟩
      · rw [upd_ne (ne_of hp1 upd_same (by intro z; cases z)).symm]
        exact upd_same
      · exact (he.sameT (Same.new hl)).imp fun c' r' q => isT.ins q hp1
      · intro c o e hc
        rw [upd_ne hc, upd_ne (ne_of_none (s1 _ _ e) hl)]
        exact s1 _ _ e
    rintro _ H1 ⟨rfl, R, refs', hp1, hR1, hE1, kp1⟩
    have hS1 : Sq K H1 S (starts.map V.int) := Sq.keep hS hp kp1
    refine ⟨fun σ' H' => σ' = [some (.ref p), some (.ref G), some (.ref S), none] ∧ ∃ S', H' p = some (.ins C dx (putF "starts" (.ref S') (putF "rows" (.ref R) []))) ∧ H' R = some (.tup refs') ∧ Each H' isT refs' rows ∧ SqT K H' S' (starts.map V.int) ∧ (∀ c o, H c = some o → c ≠ p → H' c = some o), ?_, ?_⟩
    · rcases hS1 with hS1 | hS1
      · refine ⟨_, rfl, S, _, rfl, .inl ⟨hS1, fun l hl => ?_⟩⟩
        have hp2 : (upd H1 l (.tup (starts.map V.int))) p = some (.ins C dx (putF "rows" (.ref R) [])) := by rw [upd_ne (ne_of_none hp1 hl)]; exact hp1
        refine ⟨_, rfl, p, C, dx, _, rfl, hp2, T.cl, T.nS, (by show 1 < 1000; decide), rfl, l, upd_same, ?_, ?_, ?_, ?_⟩
        · rw [upd_ne (ne_of (Same.new hl _ _ hR1) hp2 (by intro z; cases z))]
          exact Same.new hl _ _ hR1
        · exact (hE1.sameT (Same.new hl)).imp fun c' r' q => isT.ins q hp2
        · exact SqT.ins (SqT.of upd_same) hp2
        · intro c o e hc
          rw [upd_ne hc]
          exact Same.new hl _ _ (kp1 _ _ e hc)
      · refine ⟨_, rfl, S, _, rfl, .inr ⟨hS1, ?_⟩⟩
        refine ⟨_, rfl, p, C, dx, _, rfl, hp1, T.cl, T.nS, (by show 1 < 1000; decide), rfl, S, upd_same, ?_, ?_, ?_, ?_⟩
        · rw [upd_ne (ne_of hR1 hp1 (by intro z; cases z))]
          exact hR1
        · exact hE1.imp fun c' r' q => isT.ins q hp1
        · exact SqT.ins hS1 hp1
        · intro c o e hc
          rw [upd_ne hc]
          exact kp1 _ _ e hc
    rintro _ H2 ⟨rfl, S', hp2, hR2, hE2, hS2, kp2⟩
    refine ⟨_, rfl, p, C, dx, _, _, rfl, hp2, T.cl, T.nR, rf2_rows R S', _, rfl, p, C, dx, _, _, rfl, hp2, T.cl, T.nS, rf2_starts R S', R, S', refs', rows, starts, k, rfl, hR2, hE2, hS2, gd.one, gd.most, gd.ok, gd.root, gd.st, fun H3 s3 => ?_⟩
    refine ⟨_, rfl, p, C, dx, _, _, rfl, s3 _ _ hp2, T.cl, T.nS, rf2_starts R S', S', _, rfl, .inr (SqT.up hS2 s3), (starts.length : Int), k, rfl, ?_, gd.root, ?_⟩
    · show V.int (((starts.map V.int).length : Nat) : Int) = _
      rw [List.length_map]
    refine ⟨_, rfl, p, C, dx, _, rfl, s3 _ _ hp2, T.cl, T.nM, (by show 2 < 1000; decide), ?_⟩
    refine kk _ ⟨R, S', refs', upd_same, ?_, ?_, ?_⟩ ?_
    · rw [upd_ne (ne_of (s3 _ _ hR2) (s3 _ _ hp2) (by intro z; cases z))]
      exact s3 _ _ hR2
    · exact (hE2.sameT s3).imp fun c' r' q => isT.ins q (s3 _ _ hp2)
    · exact SqT.ins (SqT.up hS2 s3) (s3 _ _ hp2)
    · intro c o e hc
      rw [upd_ne hc]
      exact s3 _ _ (kp2 _ _ e hc)
end
end PA

set_option maxHeartbeats 2000000
namespace PA
/-- below 2 ^ n in size -/
abbrev Sm (n : Nat) (x : Int) : Prop := x.natAbs < 2 ^ n
theorem Sm.mono {n m : Nat} {x : Int} (h : Sm n x) (hn : n ≤ m) : Sm m x := Nat.lt_of_lt_of_le h (Nat.pow_le_pow_right (by decide) hn)
theorem Sm.mul {n m k : Nat} {x y : Int} (hx : Sm n x) (hy : Sm m y) (h : n + m ≤ k) : Sm k (x * y) := by
  refine Sm.mono (n := n + m) ?_ h
  unfold Sm
  rw [Int.natAbs_mul, Nat.pow_add]
  exact Nat.mul_lt_mul'' hx hy
theorem Sm.add {n k : Nat} {x y : Int} (hx : Sm n x) (hy : Sm n y) (h : n + 1 ≤ k) : Sm k (x + y) := by
  refine Sm.mono (n := n + 1) ?_ h
  unfold Sm at *
  rw [Nat.pow_succ]
  omega
theorem Sm.sub {n k : Nat} {x y : Int} (hx : Sm n x) (hy : Sm n y) (h : n + 1 ≤ k) : Sm k (x - y) := by
  refine Sm.mono (n := n + 1) ?_ h
  unfold Sm at *
  rw [Nat.pow_succ]
  omega
theorem Sm.neg {n : Nat} {x : Int} (hx : Sm n x) : Sm n (-x) := by
  unfold Sm at *
  rw [Int.natAbs_neg]
  exact hx
theorem Sm.le {n : Nat} {x y : Int} (hx : Sm n x) (h : y.natAbs ≤ x.natAbs) : Sm n y := Nat.lt_of_le_of_lt h hx
theorem Sm.one {n : Nat} (h : 0 < n) : Sm n 1 := by
  show (1 : Int).natAbs < 2 ^ n
  exact Nat.one_lt_two_pow (by omega)

/-- the divisor that a Ratio shortens by -/
def shr (t b : Int) : Int := if b < 0 then -((Nat.gcd t.natAbs b.natAbs : Nat) : Int) else ((Nat.gcd t.natAbs b.natAbs : Nat) : Int)
/-- lowest terms -/
structure Low (T B : Int) : Prop where
  pos : 0 < B
  cop : Nat.gcd T.natAbs B.natAbs = 1
theorem low_one (i : Int) : Low i 1 := ⟨by decide, Nat.gcd_one_right _⟩
theorem gcd_key {a b c d g : Nat} (h1 : a = c * g) (h2 : b = d * g) : Nat.gcd a b = Nat.gcd c d * g := by
  rw [h1, h2]
  exact Nat.gcd_mul_right _ _ _
theorem rat_mk {t b : Int} (hb : b ≠ 0) : shr t b ≠ 0 ∧ (shr t b).natAbs ≤ b.natAbs ∧ Low (t.fdiv (shr t b)) (b.fdiv (shr t b)) ∧ (t.fdiv (shr t b)) * b = t * (b.fdiv (shr t b)) ∧
    (t.fdiv (shr t b)).natAbs ≤ t.natAbs ∧ (b.fdiv (shr t b)).natAbs ≤ b.natAbs := by
  have hg : 0 < Nat.gcd t.natAbs b.natAbs := Nat.gcd_pos_of_pos_right _ (Int.natAbs_pos.mpr hb)
  have hgb : Nat.gcd t.natAbs b.natAbs ≤ b.natAbs := Nat.gcd_le_right _ (Int.natAbs_pos.mpr hb)
  have hsn : (shr t b).natAbs = Nat.gcd t.natAbs b.natAbs := by
    unfold shr
    split
    · rw [Int.natAbs_neg, Int.natAbs_natCast]
    · rw [Int.natAbs_natCast]
  have hs0 : shr t b ≠ 0 := by
    intro z
    rw [z] at hsn
    simp at hsn
    omega
  have dv : ∀ y : Int, (Nat.gcd t.natAbs b.natAbs) ∣ y.natAbs → ∃ q : Int, y = q * shr t b := by
    intro y hy
    have h1 : ((Nat.gcd t.natAbs b.natAbs : Nat) : Int) ∣ y := Int.ofNat_dvd_left.mpr hy
    obtain ⟨q, hq⟩ := h1
    unfold shr
    split
    · exact ⟨-q, by rw [Int.neg_mul_neg, Int.mul_comm]; exact hq⟩
    · exact ⟨q, by rw [Int.mul_comm]; exact hq⟩
  obtain ⟨T, hT⟩ := dv t (Nat.gcd_dvd_left _ _)
  obtain ⟨B, hB⟩ := dv b (Nat.gcd_dvd_right _ _)
  have eT : t.fdiv (shr t b) = T := by
    conv => lhs; lhs; rw [hT]
    exact Int.mul_fdiv_cancel _ hs0
  have eB : b.fdiv (shr t b) = B := by
    conv => lhs; lhs; rw [hB]
    exact Int.mul_fdiv_cancel _ hs0
  rw [eT, eB]
  have nT : t.natAbs = T.natAbs * Nat.gcd t.natAbs b.natAbs := by
    conv => lhs; rw [hT, Int.natAbs_mul, hsn]
  have nB : b.natAbs = B.natAbs * Nat.gcd t.natAbs b.natAbs := by
    conv => lhs; rw [hB, Int.natAbs_mul, hsn]
  refine ⟨hs0, by rw [hsn]; exact hgb, ⟨?_, ?_⟩, ?_, ?_, ?_⟩
  · have hB0 : B ≠ 0 := by
      intro z
      rw [z, Int.zero_mul] at hB
      exact hb hB
    rcases Int.lt_or_gt_of_ne hB0 with h | h
    · exfalso
      unfold shr at hB
      split at hB
      · rename_i hneg
        have : 0 < B * -((Nat.gcd t.natAbs b.natAbs : Nat) : Int) := Int.mul_pos_of_neg_of_neg h (by omega)
        omega
      · rename_i hneg
        have : B * ((Nat.gcd t.natAbs b.natAbs : Nat) : Int) < 0 := Int.mul_neg_of_neg_of_pos h (by omega)
        omega
    · exact h
  · have e : Nat.gcd t.natAbs b.natAbs = Nat.gcd T.natAbs B.natAbs * Nat.gcd t.natAbs b.natAbs := by
      exact gcd_key nT nB
    have e2 : 1 * Nat.gcd t.natAbs b.natAbs = Nat.gcd T.natAbs B.natAbs * Nat.gcd t.natAbs b.natAbs := by rw [Nat.one_mul]; exact e
    exact (Nat.eq_of_mul_eq_mul_right hg e2).symm
  · calc T * b = T * (B * shr t b) := by rw [← hB]
      _ = (T * shr t b) * B := by rw [Int.mul_comm B, ← Int.mul_assoc]
      _ = t * B := by rw [← hT]
  · rw [nT]; exact Nat.le_mul_of_pos_right _ hg
  · rw [nB]; exact Nat.le_mul_of_pos_right _ hg
/-- a fraction has one lowest form -/
theorem Low.uniq {T B T' B' : Int} (h : Low T B) (h' : Low T' B') (e : T * B' = T' * B) : T = T' ∧ B = B' := by
  have n : T.natAbs * B'.natAbs = T'.natAbs * B.natAbs := by rw [← Int.natAbs_mul, ← Int.natAbs_mul, e]
  have d1 : B.natAbs ∣ B'.natAbs := by
    have : B.natAbs ∣ T.natAbs * B'.natAbs := ⟨T'.natAbs, by rw [n, Nat.mul_comm]⟩
    exact (Nat.Coprime.symm h.cop).dvd_of_dvd_mul_left this
  have d2 : B'.natAbs ∣ B.natAbs := by
    have : B'.natAbs ∣ T'.natAbs * B.natAbs := ⟨T.natAbs, by rw [← n, Nat.mul_comm]⟩
    exact (Nat.Coprime.symm h'.cop).dvd_of_dvd_mul_left this
  have eB : B = B' := by
    have := Nat.dvd_antisymm d1 d2
    have p1 := h.pos
    have p2 := h'.pos
    omega
  subst eB
  have hB : B ≠ 0 := by have := h.pos; omega
  exact ⟨Int.eq_of_mul_eq_mul_right hB e, rfl⟩
theorem Low.neg {T B : Int} (h : Low T B) : Low (-T) B := ⟨h.pos, by rw [Int.natAbs_neg]; exact h.cop⟩
/-- a = n / d and b = n / d -/
theorem cross {a b n d x y : Int} (hb : b ≠ 0) (h1 : a * d = n * b) (h2 : n * y = x * d) (hd : d ≠ 0) : a * y = x * b := by
  have : (a * y) * d = (x * b) * d := by
    calc (a * y) * d = (a * d) * y := by rw [Int.mul_assoc, Int.mul_comm y, ← Int.mul_assoc]
      _ = (n * b) * y := by rw [h1]
      _ = (n * y) * b := by rw [Int.mul_assoc, Int.mul_comm b, ← Int.mul_assoc]
      _ = (x * d) * b := by rw [h2]
      _ = (x * b) * d := by rw [Int.mul_assoc, Int.mul_comm d, ← Int.mul_assoc]
  exact Int.eq_of_mul_eq_mul_right hd this
end PA

set_option maxHeartbeats 2000000
namespace PA
open PySem L2 RZ
open C8 (pss_cut tCut)
abbrev sDraw : Stmt := top 44
abbrev sStart : Stmt := top 45
/-! ### data of ints -/
theorem ints_lay : ∀ ns : List Int, PyData.canLayAll0 (ns.map PyData.int) = true
  | [] => by simp [PyData.canLayAll0]
  | z :: zs => by simp [PyData.canLayAll0, PyData.canLay0, ints_lay zs]
theorem ints_depth : ∀ ns : List Int, PyData.depthAll (ns.map PyData.int) ≤ 2
  | [] => by simp [PyData.depthAll]
  | z :: zs => by
    have h1 := ints_depth zs
    simp only [List.map_cons, PyData.depthAll, PyData.depth]
    omega
theorem ints_shaped (ns : List Int) : SeqAt.shaped (.list (ns.map PyData.int)) = true := by
  have h1 := ints_depth ns
  have h2 : PyData.depth (.list (ns.map PyData.int)) ≤ 64 := by
    simp only [PyData.depth]
    omega
  show (PyData.canLay0 (.list (ns.map PyData.int)) && decide (PyData.depth (.list (ns.map PyData.int)) ≤ 64)) = true
  rw [Bool.and_eq_true]
  exact ⟨by simp only [PyData.canLay0]; exact ints_lay ns, decide_eq_true h2⟩
theorem dp_ints {K : PySem.W.Frag} {H : Hp} : ∀ ns : List Int, DpAll K H (ns.map V.int) (ns.map PyData.int)
  | [] => .nil
  | z :: zs => .cons (.int z) (dp_ints zs)
theorem ints_nil (ns : List Int) : PyData.eqv (.list (ns.map PyData.int)) (.list []) = ns.isEmpty := by
  cases ns with
  | nil => simp [PyData.eqv, PyData.eqvAll]
  | cons z zs => simp [PyData.eqv, PyData.eqvAll]
/-! ### the stream of draws: the list at a, the numbers left at l, n draws made -/
def StreamAt (H : Hp) (a l : Addr) (n : Nat) : Prop := a ≠ l ∧ ∃ (ns : List Int) (x z : Int), H a = some (.lst [.ref l, .int x, .int (n : Int), .int z]) ∧ H l = some (.lst (ns.map V.int)) ∧ ns.length ≤ 63 ∧ 0 ≤ x ∧ 0 ≤ z ∧ z < 2147483647
/-- all but the stream is kept -/
def Keep (a l : Addr) (H H' : Hp) : Prop := ∀ c o, c ≠ a → c ≠ l → H c = some o → H' c = some o
theorem Keep.refl (a l : Addr) (H : Hp) : Keep a l H H := fun _ _ _ _ h => h
theorem Keep.trans {a l : Addr} {H H1 H2 : Hp} (h : Keep a l H H1) (h' : Keep a l H1 H2) : Keep a l H H2 := fun c o x y e => h' c o x y (h c o x y e)
theorem Keep.of {a l : Addr} {H H' : Hp} (h : Same H H') : Keep a l H H' := fun c o _ _ e => h c o e
theorem StreamAt.same {H H' : Hp} {a l : Addr} {n : Nat} (h : StreamAt H a l n) (s : Same H H') : StreamAt H' a l n := by
  obtain ⟨ne, ns, x, z, h1, h2, h3⟩ := h
  exact ⟨ne, ns, x, z, s _ _ h1, s _ _ h2, h3⟩
def spDraw : Sp := fun vs H Q _ => ∃ (a l : Addr) (n : Nat) (many : Int), vs = [.ref a, .int many] ∧ StreamAt H a l n ∧ n ≤ 100000 ∧ 0 < many ∧ Sm 9000 many ∧
  ∀ (r : Int) (H' : Hp), 0 ≤ r → r < many → StreamAt H' a l (n + 1) → Keep a l H H' → Q (.int r) H'
section
variable {P : Program} {w : World} {K : PySem.W.Frag} {mg : Str → Option Value} {base : Heap} {C : Addr}
theorem scDraw : FnScope ["_law_stream", "_law_many", "_law_digit", "_law_mixed"] ["_law_stream", "_law_many"] (defScope sDraw) := ⟨rfl, rfl, rfl, by decide +kernel, rfl, by decide +kernel, by decide +kernel⟩
theorem ok_draw {f : Addr} {fd : FuncData} (F : Fun K "_law_draw" "_law_draw" sDraw f fd) (T : Txt K mg C) : FnOk P w K mg base CX0 1 f fd ["_law_stream", "_law_many"] spDraw := by
  refine F.ok scDraw (fun vs H Q E h => ?_) (fun cdv A outer s H vs Q E hr h => ?_)
  · obtain ⟨a, l, n, many, rfl, _⟩ := h
    rfl
  · obtain ⟨a, l, n, many, rfl, ⟨ne, ns, x, z, h1, h2, hl, hx, hz0, hz1⟩, hn, hm, hms, k⟩ := h
    have hW : ∀ j : Int, CDivW j many := fun j => ⟨hm, Nat.lt_of_lt_of_le (PySem.Flt.log2_lt_of (by decide) hms) (Nat.le_refl _)⟩
    refine ⟨_, pss_cut (ps_asg (pe_op op_add (pe_ix ix_list (pv 0) pe_int (fun _ _ => rfl)) pe_int) (pg_sub (pv 0) pe_int set_list))
      (pss_cut (ps_if (PW.pt (pw_and (pt_cmpR op_eq (pe_ix ix_list (pv 0) pe_int (fun _ _ => rfl)) pe_int (nomark _)) (pw_and1 (pt_cmpR (op_neD hr.units) (pe_ix ix_list (pv 0) pe_int (fun _ _ => rfl)) (pe_lst pa_nil) (nomark _)))))
        (pss_cons (ps_asg (pe_bm PySem.F.plainAttrs_list PySem.F.slot_list_pop PySem.F.type_list_pop mt_popAt (pe_ix ix_list (pv 0) pe_int (fun _ _ => rfl)) (pa_cons pe_int pa_nil)) (pg_sub (pv 0) pe_int set_list))
          (pss_one (ps_if (pt_cmpR op_lt (pe_ix ix_list (pv 0) pe_int (fun _ _ => rfl)) (pe_op op_pow pe_int pe_int) (nomark _))
            (pss_cons (ps_asg (pe_op op_mod (pe_callTy call_int1 (by rfl) T.int_ boot_int' (pa_cons (pe_op op_add (pe_op op_add (pe_op op_mul (pe_ix ix_list (pv 0) pe_int (fun _ _ => rfl)) pe_int) (pe_ix ix_list (pv 0) pe_int (fun _ _ => rfl))) pe_int) pa_nil)) pe_int) (pg_sub (pv 0) pe_int set_list))
              (pss_one (ps_asg pe_int (pg_sub (pv 0) pe_int set_list)))) pss_nil))) pss_nil)
      (pss_cons (ps_if (pt_cmpR op_gt (pe_ix ix_list (pv 0) pe_int (fun _ _ => rfl)) pe_int (nomark _))
        (pss_cons (ps_set (i := 2) scDraw.nd rfl (Or.inl rfl) (pe_op op_mod (pe_callTy call_int1 (by rfl) T.int_ boot_int' (pa_cons (pe_ix ix_list (pv 0) pe_int (fun _ _ => rfl)) pa_nil)) (pv 1)))
          (pss_cons (ps_asg (pe_op op_fdivW (pe_ix ix_list (pv 0) pe_int (fun _ _ => rfl)) (pv 1)) (pg_sub (pv 0) pe_int set_list))
            (pss_one (ps_ret (pv 2))))) pss_nil)
      (pss_cons (ps_set (i := 3) scDraw.nd rfl (Or.inl rfl) (pe_op op_mod (pe_op op_pow (pe_op op_add (pe_op op_add (pe_ix ix_list (pv 0) pe_int (fun _ _ => rfl)) (pe_op op_mul pe_int (pe_ix ix_list (pv 0) pe_int (fun _ _ => rfl)))) pe_int) pe_int) pe_int))
      (pss_one (ps_ret (pe_op op_mod (pe_op op_mod (pe_op op_pow (pe_op op_add (pe_op op_add (pe_op op_mul (pv 3) pe_int) (pe_op op_mul (pe_op op_mul pe_int (pe_ix ix_list (pv 0) pe_int (fun _ _ => rfl))) (pe_ix ix_list (pv 0) pe_int (fun _ _ => rfl)))) pe_int) pe_int) pe_int) (pv 1))))))), ?_⟩
    refine ⟨fun σ' H' => σ' = [some (V.ref a), some (V.int many), none, none] ∧ H' = upd H a (.lst [.ref l, .int x, .int ((n : Int) + 1), .int z]), ?_, ?_⟩
    · exact ⟨_, rfl, a, _, 2, _, rfl, rfl, SqL.of h1, rfl, _, _, rfl, rfl, _, rfl, a, _, 2, 2, rfl, rfl, h1, rfl, rfl, rfl⟩
    rintro _ _ ⟨rfl, rfl⟩
    refine ⟨fun σ' H' => σ' = [some (V.ref a), some (V.int many), none, none] ∧ ∃ (ns' : List Int) (x' z' : Int), H' a = some (.lst [.ref l, .int x', .int ((n : Int) + 1), .int z']) ∧ H' l = some (.lst (ns'.map V.int)) ∧ ns'.length ≤ 63 ∧ 0 ≤ x' ∧ 0 ≤ z' ∧ z' < 2147483647 ∧ Keep a l H H', ?_, ?_⟩
    · have kp1 : Keep a l H (upd H a (.lst [.ref l, .int x, .int ((n : Int) + 1), .int z])) := fun c o ca _ e => by rw [upd_ne ca]; exact e
      have hl1 : (upd H a (.lst [.ref l, .int x, .int ((n : Int) + 1), .int z])) l = some (.lst (ns.map V.int)) := by rw [upd_ne ne.symm]; exact h2
      refine ⟨_, rfl, a, _, 1, _, rfl, rfl, SqL.of upd_same, rfl, rfl, _, rfl, ifD_2 (fun hx0 => ?_) (fun _ => iteF ?_)⟩
      · refine ⟨_, rfl, a, _, 0, _, rfl, rfl, SqL.of upd_same, rfl, Nat.zero_le _, fun p hp => ?_⟩
        have npa : a ≠ p := fun e => by rw [← e, upd_same] at hp; cases hp
        have npl : l ≠ p := ne_of_none hl1 hp
        have kp2 : Keep a l H (upd (upd H a (.lst [.ref l, .int x, .int ((n : Int) + 1), .int z])) p (.lst [])) := fun c o ca cl e => by
          rw [upd_ne (ne_of_none (kp1 c o ca cl e) hp)]; exact kp1 c o ca cl e
        refine ⟨.list (ns.map PyData.int), .list [], .lst (SqL.of (by rw [upd_ne npl]; exact hl1)) (dp_ints ns), .lst (SqL.of upd_same) .nil, ints_shaped ns, ints_shaped [], _, rfl, ?_⟩
        rw [ints_nil]
        cases ns with
        | nil => exact iteF ⟨rfl, [], x, z, by rw [upd_ne npa, upd_same], by rw [upd_ne npl]; exact hl1, Nat.zero_le _, hx, hz0, hz1, kp2⟩
        | cons y ys =>
          refine iteT ?_
          have ga : (upd (upd H a (.lst [.ref l, .int x, .int ((n : Int) + 1), .int z])) p (.lst [])) a = some (.lst [.ref l, .int x, .int ((n : Int) + 1), .int z]) := by rw [upd_ne npa, upd_same]
          have gl : (upd (upd H a (.lst [.ref l, .int x, .int ((n : Int) + 1), .int z])) p (.lst [])) l = some (.lst ((y :: ys).map V.int)) := by rw [upd_ne npl]; exact hl1
          generalize (upd (upd H a (.lst [.ref l, .int x, .int ((n : Int) + 1), .int z])) p (.lst [])) = Hb at ga gl kp2
          refine ⟨_, rfl, a, _, 0, _, rfl, rfl, SqL.of ga, rfl, .inl ⟨rfl, _, SqL.of gl⟩, l, _, 0, 0, .int y, rfl, rfl, gl, by decide, by decide, (ixN_seq (Evl.ixN_nat (j := 0) (by simp))).1, rfl, ?_⟩
          have ga2 : (upd Hb l (.lst (((y :: ys).map V.int).eraseIdx 0))) a = some (.lst [.ref l, .int x, .int ((n : Int) + 1), .int z]) := by rw [upd_ne ne]; exact ga
          refine ⟨_, rfl, a, _, 1, 1, rfl, rfl, ga2, rfl, ?_⟩
          have kp3 : ∀ o, Keep a l H (upd (upd Hb l (.lst (((y :: ys).map V.int).eraseIdx 0))) a o) := fun o c u ca cl e => by rw [upd_ne ca, upd_ne cl]; exact kp2 c u ca cl e
          have gl3 : ∀ o, (upd (upd Hb l (.lst (((y :: ys).map V.int).eraseIdx 0))) a o) l = some (.lst (ys.map V.int)) := fun o => by rw [upd_ne ne.symm, upd_same]; rfl
          have hys : ys.length ≤ 63 := Nat.le_trans (Nat.le_succ _) hl
          refine ⟨_, rfl, a, _, 1, _, rfl, rfl, SqL.of upd_same, rfl, 10, 18, rfl, rfl, (by show CPow 10 18; unfold CPow; decide), _, _, rfl, rfl, _, rfl, ifD_2 (fun hy => ?_) (fun hy => ?_)⟩
          · refine ⟨_, rfl, a, _, 3, _, rfl, rfl, SqL.of upd_same, rfl, _, _, rfl, rfl, .inr (by decide), _, rfl, a, _, 1, _, rfl, rfl, SqL.of upd_same, rfl, _, _, rfl, rfl, _, _, rfl, rfl, .inl ⟨_, rfl, _, _, rfl, rfl, (by show (0 : Int) < 2147483647; decide), _, rfl, a, _, 3, 3, rfl, rfl, upd_same, rfl, ?_⟩⟩
            refine ⟨_, rfl, a, _, 1, 1, rfl, rfl, upd_same, rfl, ?_⟩
            rw [upd_upd, upd_upd]
            exact ⟨rfl, ys, 0, (z * 31 + y + 7) % 2147483647, upd_same, gl3 _, hys, by decide, Int.emod_nonneg _ (by decide), Int.emod_lt_of_pos _ (by decide), kp3 _⟩
          · exact ⟨rfl, ys, y, z, upd_same, gl3 _, hys, by
              have h18 : (0 : Int) ≤ 10 ^ (18 : Int).toNat := by decide
              omega, hz0, hz1, kp3 _⟩
      · exact ⟨rfl, ns, x, z, upd_same, hl1, hl, hx, hz0, hz1, kp1⟩
    rintro _ H1 ⟨rfl, ns', x', z', g1, g2, gl, gx, gz0, gz1, kp⟩
    refine ⟨_, rfl, a, _, 1, _, rfl, rfl, SqL.of g1, rfl, _, _, rfl, rfl, _, rfl, ifD_2 (fun hp => ?_) (fun _ => ?_)⟩
    · refine ⟨_, rfl, a, _, 1, _, rfl, rfl, SqL.of g1, rfl, .inl ⟨_, rfl, _, rfl, _, _, rfl, rfl, hm, ?_⟩⟩
      refine ⟨_, rfl, a, _, 1, _, rfl, rfl, SqL.of g1, rfl, _, rfl, _, _, rfl, rfl, hW _, _, rfl, a, _, 1, 1, rfl, rfl, g1, rfl, _, rfl, ?_⟩
      refine k (x' % many) _ (Int.emod_nonneg _ (by omega)) (Int.emod_lt_of_pos _ hm) ⟨ne, ns', x' / many, z', upd_same, by rw [upd_ne ne.symm]; exact g2, gl, Int.ediv_nonneg gx (by omega), gz0, gz1⟩ fun c o ca cl e => by
        rw [upd_ne ca]; exact kp c o ca cl e
    · have hn' : (n : Int) ≤ 100000 := by omega
      have hn0 : (0 : Int) ≤ n := by omega
      refine ⟨_, rfl, a, _, 3, _, rfl, rfl, SqL.of g1, rfl, _, rfl, a, _, 2, _, rfl, rfl, SqL.of g1, rfl, _, _, rfl, rfl, .inl (by decide), _, _, rfl, rfl, _, _, rfl, rfl, _, _, rfl, rfl, ?_, _, _, rfl, rfl, (by show (0 : Int) < 2147483629; decide), ?_⟩
      · show CPow _ 5
        refine ⟨by decide, by decide, ?_⟩
        have e64 : (2 : Nat) ^ 64 = 18446744073709551616 := by decide
        rw [e64]
        omega
      · generalize hmx : ((z' + 104729 * ((n : Int) + 1) + 17) ^ (5 : Int).toNat) % 2147483629 = mx
        have m0 : 0 ≤ mx := by rw [← hmx]; exact Int.emod_nonneg _ (by decide)
        have m1 : mx < 2147483629 := by rw [← hmx]; exact Int.emod_lt_of_pos _ (by decide)
        refine ⟨_, rfl, _, _, rfl, rfl, .inr (by decide), _, rfl, a, _, 2, _, rfl, rfl, SqL.of g1, rfl, _, _, rfl, rfl, .inl (by decide), _, rfl, a, _, 2, _, rfl, rfl, SqL.of g1, rfl, _, _, rfl, rfl, .inr ?_, _, _, rfl, rfl, _, _, rfl, rfl, _, _, rfl, rfl, ?_, _, _, rfl, rfl, (by show (0 : Int) < 1000000007; decide), _, rfl, _, _, rfl, rfl, hm, ?_⟩
        · have e64 : (2 : Int) ^ 64 = 18446744073709551616 := by decide
          rw [e64]
          omega
        · show CPow _ 3
          refine ⟨by decide, by decide, ?_⟩
          have e64 : (2 : Nat) ^ 64 = 18446744073709551616 := by decide
          rw [e64]
          have q0 : 0 ≤ 40503 * ((n : Int) + 1) * ((n : Int) + 1) := Int.mul_nonneg (by omega) (by omega)
          have q1 : 40503 * ((n : Int) + 1) * ((n : Int) + 1) ≤ 40503 * 100001 * 100001 := Int.mul_le_mul (by omega) (by omega) (by omega) (by decide)
          omega
        · exact k _ _ (Int.emod_nonneg _ (by omega)) (Int.emod_lt_of_pos _ hm) ⟨ne, ns', x', z', g1, g2, gl, gx, gz0, gz1⟩ kp
end
theorem sm9000 {x : Int} {n : Nat} (h : Sm n x) (hn : n ≤ 9000) : Sm 9000 x := h.mono hn
theorem sm_small {x : Int} (h : x.natAbs < 8) : Sm 9000 x := sm9000 (n := 3) h (by decide)
def spStart (K : PySem.W.Frag) : Sp := fun vs H Q _ => ∃ (p : Addr) (ns : List Int), vs = [.ref p] ∧ SqL K H p (ns.map V.int) ∧ ns.length ≤ 63 ∧ ∀ (a l : Addr) (H' : Hp), StreamAt H' a l 0 → H a = none → H l = none → Same H H' → Q (.ref a) H'
section
variable {P : Program} {w : World} {K : PySem.W.Frag} {mg : Str → Option Value} {base : Heap} {C : Addr}
theorem scStart : FnScope ["_law_script"] ["_law_script"] (defScope sStart) := ⟨rfl, rfl, rfl, by decide +kernel, rfl, by decide +kernel, by decide +kernel⟩
theorem ok_start {f : Addr} {fd : FuncData} (F : Fun K "_law_start" "_law_start" sStart f fd) (T : Txt K mg C) : FnOk P w K mg base CX0 1 f fd ["_law_script"] (spStart K) := by
  refine F.ok scStart (fun vs H Q E h => ?_) (fun cdv A outer s H vs Q E hr h => ?_)
  · obtain ⟨p, ns, rfl, _⟩ := h
    rfl
  · obtain ⟨p, ns, rfl, hS, hl, k⟩ := h
    refine ⟨_, pss_one (ps_ret (pe_lst (pa_cons (pe_callTy call_list_of (by rfl) T.list_ boot_list' (pa_cons (pv 0) pa_nil)) (pa_cons pe_int (pa_cons pe_int (pa_cons pe_int pa_nil)))))), ?_⟩
    refine ⟨_, rfl, p, _, rfl, .inl hS, fun l hl' => ⟨by show 4 ≤ sizeLine; decide, fun a ha => ?_⟩⟩
    have nal : a ≠ l := fun e => by rw [e, upd_same] at ha; cases ha
    have ha0 : H a = Option.none := by rw [upd_ne nal] at ha; exact ha
    exact k a l _ ⟨nal, ns, 0, 0, upd_same, by rw [upd_ne nal.symm, upd_same], hl, by decide, by decide, by decide⟩ ha0 hl' ((Same.new hl').trans (Same.new ha))
end
end PA

set_option maxHeartbeats 4000000
namespace PA
open PySem L2 RZ
/-! ### a comprehension over zip -/
section
variable {K : PySem.W.Frag} {a b : Addr} {xs ys : List V} {g : TG} {tt : TT} {te : TE} {vs : List Nat} {σ : L2.St} {H1 : Hp} {D : Addr} {Qd : Hp → Prop}
theorem lc_zipL (hl : xs.length = ys.length) (Pv : Nat → Hp → Prop) (h0 : Pv 0 (upd H1 D (.lst []))) (hq : ∀ i H, Pv i H → SqL K H a xs ∧ SqL K H b ys)
    (hs : ∀ (i : Nat) (x y : V) (T : Addr) (H : Hp), xs[i]? = some x → ys[i]? = some y → Pv i H → H T = none → g (.ref T) (wipe σ vs) (upd H T (.tup [x, y])) fun σ2 H2 => wipe σ2 vs = wipe σ vs ∧ tt σ2 H2 fun c H3 =>
      if c = true then te σ2 H3 fun z H4 => ∃ acc, H4 D = some (.lst acc) ∧ acc.length < sizeLine ∧ Pv (i + 1) (upd H4 D (.lst (acc ++ [z]))) else Pv (i + 1) H3) (hd : ∀ H, Pv xs.length H → Qd H) :
    ∃ W : Nat → Nat → Hp → Prop, (∃ m, W 0 m (upd H1 D (.lst []))) ∧ ∀ i m H, W i m H →
      ((Itz K a b).stop i H ∧ Qd H) ∨ ((Itz K a b).go i H ∧ ∃ Nx : Hp → Prop, (∀ H', Nx H' → ∃ m', m' < m ∧ W (i + 1) m' H') ∧ ∀ x H', (Itz K a b).yld i H x H' → g x (wipe σ vs) H' fun σ2 H2 => wipe σ2 vs = wipe σ vs ∧ tt σ2 H2 fun c H3 =>
        if c = true then te σ2 H3 fun z H4 => ∃ acc, H4 D = some (.lst acc) ∧ acc.length < sizeLine ∧ Nx (upd H4 D (.lst (acc ++ [z]))) else Nx H3) := by
  refine ⟨fun i m H => m = xs.length - i ∧ i ≤ xs.length ∧ Pv i H, ⟨xs.length, rfl, Nat.zero_le _, h0⟩, ?_⟩
  rintro i m H ⟨rfl, hi, p⟩
  obtain ⟨qx, qy⟩ := hq i H p
  by_cases hlt : i < xs.length
  · have hx : xs[i]? = some xs[i] := List.getElem?_eq_getElem hlt
    have hlt2 : i < ys.length := by omega
    have hy : ys[i]? = some ys[i] := List.getElem?_eq_getElem hlt2
    refine .inr ⟨⟨xs, ys, _, _, qx, qy, hx, hy⟩, Pv (i + 1), fun H' p' => ⟨xs.length - (i + 1), by omega, rfl, hlt, p'⟩, fun v H' y => ?_⟩
    obtain ⟨T, x', y', rfl, hT, rfl, f1, f2⟩ := y
    exact hs i x' y' T H (f1 xs qx) (f2 ys qy) p hT
  · have e : i = xs.length := by omega
    subst e
    exact .inl ⟨⟨xs, ys, qx, qy, Or.inl (Nat.le_refl _)⟩, hd H p⟩
theorem lc_zipT (hl : xs.length = ys.length) (Pv : Nat → Hp → Prop) (h0 : Pv 0 (upd H1 D (.lst []))) (hq : ∀ i H, Pv i H → SqT K H a xs ∧ SqT K H b ys)
    (hs : ∀ (i : Nat) (x y : V) (T : Addr) (H : Hp), xs[i]? = some x → ys[i]? = some y → Pv i H → H T = none → g (.ref T) (wipe σ vs) (upd H T (.tup [x, y])) fun σ2 H2 => wipe σ2 vs = wipe σ vs ∧ tt σ2 H2 fun c H3 =>
      if c = true then te σ2 H3 fun z H4 => ∃ acc, H4 D = some (.lst acc) ∧ acc.length < sizeLine ∧ Pv (i + 1) (upd H4 D (.lst (acc ++ [z]))) else Pv (i + 1) H3) (hd : ∀ H, Pv xs.length H → Qd H) :
    ∃ W : Nat → Nat → Hp → Prop, (∃ m, W 0 m (upd H1 D (.lst []))) ∧ ∀ i m H, W i m H →
      ((ItzT K a b).stop i H ∧ Qd H) ∨ ((ItzT K a b).go i H ∧ ∃ Nx : Hp → Prop, (∀ H', Nx H' → ∃ m', m' < m ∧ W (i + 1) m' H') ∧ ∀ x H', (ItzT K a b).yld i H x H' → g x (wipe σ vs) H' fun σ2 H2 => wipe σ2 vs = wipe σ vs ∧ tt σ2 H2 fun c H3 =>
        if c = true then te σ2 H3 fun z H4 => ∃ acc, H4 D = some (.lst acc) ∧ acc.length < sizeLine ∧ Nx (upd H4 D (.lst (acc ++ [z]))) else Nx H3) := by
  refine ⟨fun i m H => m = xs.length - i ∧ i ≤ xs.length ∧ Pv i H, ⟨xs.length, rfl, Nat.zero_le _, h0⟩, ?_⟩
  rintro i m H ⟨rfl, hi, p⟩
  obtain ⟨qx, qy⟩ := hq i H p
  by_cases hlt : i < xs.length
  · have hx : xs[i]? = some xs[i] := List.getElem?_eq_getElem hlt
    have hlt2 : i < ys.length := by omega
    have hy : ys[i]? = some ys[i] := List.getElem?_eq_getElem hlt2
    refine .inr ⟨⟨xs, ys, _, _, qx, qy, hx, hy⟩, Pv (i + 1), fun H' p' => ⟨xs.length - (i + 1), by omega, rfl, hlt, p'⟩, fun v H' y => ?_⟩
    obtain ⟨T, x', y', rfl, hT, rfl, f1, f2⟩ := y
    exact hs i x' y' T H (f1 xs qx) (f2 ys qy) p hT
  · have e : i = xs.length := by omega
    subst e
    exact .inl ⟨⟨xs, ys, qx, qy, Or.inl (Nat.le_refl _)⟩, hd H p⟩
end
/-! ### two values that are the same, to the depth n: ints, bools, lists and tuples of such -/
inductive Two (K : PySem.W.Frag) (H : Hp) : Nat → V → V → Prop where
  | bl (n : Nat) (b : Bool) : Two K H n (.bl b) (.bl b)
  | int (n : Nat) (i : Int) : Two K H n (.int i) (.int i)
  | lst {n : Nat} {a b : Addr} {xs ys : List V} (ha : H a = some (.lst xs)) (hb : H b = some (.lst ys)) (hl : xs.length = ys.length) (hsz : xs.length ≤ sizeLine) (hi : ∀ (i : Nat) (x y : V), xs[i]? = some x → ys[i]? = some y → Two K H n x y) : Two K H (n + 1) (.ref a) (.ref b)
  | tup {n : Nat} {a b : Addr} {xs ys : List V} (ha : SqT K H a xs) (hb : SqT K H b ys) (hl : xs.length = ys.length) (hsz : xs.length ≤ sizeLine) (hi : ∀ (i : Nat) (x y : V), xs[i]? = some x → ys[i]? = some y → Two K H n x y) : Two K H (n + 1) (.ref a) (.ref b)
theorem Two.same {K : PySem.W.Frag} {H H' : Hp} {n : Nat} {x y : V} (t : Two K H n x y) (s : Same H H') : Two K H' n x y := by
  induction t with
  | bl n b => exact .bl n b
  | int n i => exact .int n i
  | lst ha hb hl hz _ ih => exact .lst (s _ _ ha) (s _ _ hb) hl hz ih
  | tup ha hb hl hz _ ih => exact .tup (SqT.up ha s) (SqT.up hb s) hl hz ih
theorem tyT {K : PySem.W.Frag} {H : Hp} {a : Addr} {xs : List V} (h : SqT K H a xs) : TyX K H (.ref a) (.type "tuple") := by
  rcases h with (h | ⟨ob, h⟩) | ⟨o, its, n, h1, h2, _⟩
  · exact .base (.tup h)
  · exact .fTuple h
  · exact .kTuple h1 h2
end PA

set_option maxHeartbeats 4000000
namespace PA
open PySem L2 RZ
open C8 (pss_cut tCut)
theorem atI_nat {α : Type} {xs : List α} {i : Nat} {x : α} (h : xs[i]? = some x) : atI xs (i : Int) = some x := by
  unfold atI
  rw [Evl.ixN_nat (List.getElem?_eq_some_iff.mp h).1]
  exact h
theorem StreamAt.ne {H : Hp} {a l p : Addr} {n : Nat} (S : StreamAt H a l n) (h : H p = none) : p ≠ a ∧ p ≠ l := by
  obtain ⟨ne, ns, x, z, h1, h2, _⟩ := S
  exact ⟨(ne_of_none h1 h).symm, (ne_of_none h2 h).symm⟩
theorem sm48 {z : Int} (h1 : 1 ≤ z) (h2 : z ≤ 48) : Sm 9000 z := by
  refine sm9000 (n := 6) ?_ (by decide)
  have e : (2 : Nat) ^ 6 = 64 := by decide
  show z.natAbs < 2 ^ 6
  rw [e]
  omega
theorem isT.kp {H H' : Hp} {a l c : Addr} {n : Nat} {r : Rw} (q : isT H c r) (S : StreamAt H a l n) (k : Keep a l H H') : isT H' c r := by
  obtain ⟨ne, ns, x, z, h1, h2, _⟩ := S
  exact k _ _ (ne_of (H := H) q h1 (by intro z; cases z)) (ne_of (H := H) q h2 (by intro z; cases z)) q
theorem StreamAt.at_ {H : Hp} {a l : Addr} {n m : Nat} (S : StreamAt H a l n) (e : n = m) : StreamAt H a l m := e ▸ S
theorem StreamAt.lst {H : Hp} {a l p : Addr} {n : Nat} {xs ys : List V} (S : StreamAt H a l n) (hp : H p = some (.lst xs)) (pa : p ≠ a) (pl : p ≠ l) : StreamAt (upd H p (.lst ys)) a l n := by
  obtain ⟨ne, ns, x, z, h1, h2, h3⟩ := S
  exact ⟨ne, ns, x, z, by rw [upd_ne pa.symm]; exact h1, by rw [upd_ne pl.symm]; exact h2, h3⟩
end PA

set_option maxHeartbeats 2000000
/-! dicts whose keys are tuples of ints, bools, texts and None -/
namespace L2
open PySem PySem.Spec PyProof.Rows
/-- the value v counts as the leaf k -/
def lfIs : Leaf → V → Prop
  | .none, v => v = .non
  | .num i, v => v = .int i ∨ ∃ b : Bool, v = .bl b ∧ i = if b = true then 1 else 0
  | .text x, v => v = .str x
theorem lf_is {k : Leaf} {v : V} {u : Value} (h : lfIs k v) (r : RelV v u) : Leaf.isOf k u = true := by
  cases k with
  | none =>
    cases (show v = .non from h)
    cases (show u = Value.none from r)
    rfl
  | num i =>
    rcases (show v = .int i ∨ ∃ b : Bool, v = .bl b ∧ i = if b = true then 1 else 0 from h) with rfl | ⟨b, rfl, e⟩
    · obtain ⟨t, rfl⟩ := r
      exact decide_eq_true rfl
    · cases (show u = Value.bool b from r)
      exact decide_eq_true e.symm
  | text x =>
    cases (show v = .str x from h)
    obtain ⟨t, rfl⟩ := r
    show Value.isStrOf x (.str x t) = true
    simp [Value.isStrOf]
abbrev LKey := List Leaf
/-- a tuple that is the key k stands at b -/
def KeyAt (H : Hp) (b : Addr) (k : LKey) : Prop := ∃ xs, H b = some (.tup xs) ∧ Paired lfIs k xs
theorem lfs_are {P : Program} {w : World} : ∀ {ks : LKey} {xs : List V} {us : List Value}, Paired lfIs ks xs → Vals xs us → ItemsAre (leafKind P w) ks us
  | [], _, _, .nil, .nil => .nil
  | _ :: _, _, _, .cons h t, .cons r rs => .cons (lf_is h r) (lfs_are t rs)
abbrev dxK (P : Program) (w : World) : HeapKind P w LKey := tupleKind (leafKind P w)
section
variable {P : Program} {w : World} {H H' : Hp} {h : Heap} {a b d : Addr}
theorem KeyAt.is {k : LKey} (x : KeyAt H b k) (ok : HOk P w H h) : (dxK P w).is h k b := by
  obtain ⟨xs, e, r⟩ := x
  obtain ⟨_, its, rv, o, h1, h2, n, h3⟩ := (show ObjOk P w H h b (.tup xs) from ok b _ e)
  exact ⟨o, its.toArray, n, h1, h2, h3, by simpa using lfs_are r rv⟩
theorem KeyAt.kt {k : LKey} (x : KeyAt H b k) (kt : ∀ c ys, H c = some (.tup ys) → H' c = some (.tup ys)) : KeyAt H' b k := let ⟨xs, e, r⟩ := x; ⟨xs, kt _ _ e, r⟩
abbrev DE := LKey × Addr × V
abbrev DW := LKey × Addr × Value
abbrev DRel : List DE → List DW → Prop := Paired fun (p : DE) (q : DW) => p.1 = q.1 ∧ p.2.1 = q.2.1 ∧ RelV p.2.2 q.2.2
def dxR (P : Program) (w : World) (a : Addr) (kvs : List DE) (h : Heap) : Prop := kvs.length ≤ sizeLine ∧ (a == sysModules) = false ∧
  ∃ xs : List DW, DRel kvs xs ∧ ∃ o es ep, h.get? a = some o ∧ o.ExactDict ∧ o.data = .dict es ep ∧ es.toList = xs.map (entryOfKey (dxK P w)) ∧ (xs.map (·.1)).Nodup
/-- the dict at a with these entries: key, the tuple that is the key, value -/
def DX (P : Program) (w : World) (a : Addr) (kvs : List DE) : HO := .ext (dxR P w a kvs)
theorem dx_ok {kvs : List DE} (R : dxR P w a kvs h) : ObjOk P w H h a (DX P w a kvs) := by
  obtain ⟨z, y, xs, r, o, es, ep, h1, h2⟩ := id R
  refine ⟨R, ⟨o, h1⟩, fun g1 g2 p k => ?_⟩
  obtain ⟨z, y, xs, r, o, es, ep, h1, h2⟩ := p
  exact ⟨z, y, xs, r, o, es, ep, k _ h1, h2⟩
/-- the dict at d: keys and values -/
def DxAt (P : Program) (w : World) (H : Hp) (d : Addr) (ps : List (LKey × V)) : Prop := ∃ kvs : List DE, H d = some (DX P w d kvs) ∧ kvs.map (fun p => (p.1, p.2.2)) = ps ∧ ∀ p ∈ kvs, KeyAt H p.2.1 p.1
theorem DxAt.kt {ps : List (LKey × V)} (x : DxAt P w H d ps) (hd : ∀ o, H d = some o → H' d = some o) (kt : ∀ c ys, H c = some (.tup ys) → H' c = some (.tup ys)) : DxAt P w H' d ps :=
  let ⟨kvs, e, m, k⟩ := x; ⟨kvs, hd _ e, m, fun p hp => (k p hp).kt kt⟩
theorem DxAt.same {ps : List (LKey × V)} (x : DxAt P w H d ps) (s : ∀ b o, H b = some o → H' b = some o) : DxAt P w H' d ps := x.kt (fun _ e => s _ _ e) fun _ _ e => s _ _ e
theorem dx_val {kvs : List DE} {xs : List DW} (r : DRel kvs xs) (k : LKey) : RelO (valV (kvs.map fun p => (p.1, p.2.2)) k) ((atKey xs k).map (·.2)) := by
  induction r with
  | nil => exact True.intro
  | @cons p q ps qs h t ih =>
    obtain ⟨h1, h2, h3⟩ := h
    rw [List.map_cons]
    by_cases e : p.1 = k
    · have b : atKey (q :: qs) k = some q.2 := by simp [atKey, List.find?_cons, h1.symm.trans e]
      rw [valV_pos e, b]
      exact h3
    · have b : atKey (q :: qs) k = atKey qs k := by
        have e' : ¬ q.1 = k := fun z => e (h1.trans z)
        simp [atKey, List.find?_cons, e']
      rw [valV_neg e, b]
      exact ih
theorem dx_of {kvs : List DE} (ok : HOk P w H h) (e : H d = some (DX P w d kvs)) (ka : ∀ p ∈ kvs, KeyAt H p.2.1 p.1) : kvs.length ≤ sizeLine ∧ (d == sysModules) = false ∧ ∃ xs, DRel kvs xs ∧ h.DictOfH (dxK P w) d xs := by
  obtain ⟨z, y, xs, r, o, es, ep, h1, h2, h3, h4, h5⟩ := (ok d _ e).1
  refine ⟨z, y, xs, r, o, es, ep, h1, h2, h3, h4, fun x hx => ?_, h5⟩
  have all : ∀ {l : List DE} {m : List DW}, DRel l m → (∀ p ∈ l, KeyAt H p.2.1 p.1) → ∀ x ∈ m, (dxK P w).is h x.1 x.2.1 := by
    intro l m q
    induction q with
    | nil => intro _ x hx; cases hx
    | @cons p q ps qs hq t ih =>
      intro g x hx
      rcases List.mem_cons.mp hx with rfl | hx
      · have := (g p List.mem_cons_self).is ok
        rw [hq.1, hq.2.1] at this
        exact this
      · exact ih (fun p hp => g p (List.mem_cons_of_mem _ hp)) x hx
  exact all r ka x hx
end
section
variable {X : Cx}
theorem op_in_dx (hu : X.A.units + 1 < cLine) : OpR X (compareOp .In) (fun x y H Q => ∃ d b ps k, x = .ref b ∧ y = .ref d ∧ DxAt X.prog X.w H d ps ∧ KeyAt H b k ∧ Q (.bl (valV ps k).isSome) H) := by
  intro pins s σ H x y v u Q I rx ry h
  obtain ⟨d, b, ps, k, rfl, rfl, ⟨kvs, e, rfl, ka⟩, hk, q⟩ := h
  cases rx
  cases ry
  obtain ⟨z, hd, xs, r, dd⟩ := dx_of I.hok e ka
  refine wpAny_in_heap (tupleKind_room_in1 hu) (hk.is I.hok) hd dd ?_
  have e2 := (dx_val r k).isSome_eq
  rw [Option.isSome_map] at e2
  rw [← e2]
  exact ⟨.bl _, H, I.tok _, rfl, q⟩
theorem op_notIn_dx (hu : X.A.units + 1 < cLine) : OpR X (compareOp .NotIn) (fun x y H Q => ∃ d b ps k, x = .ref b ∧ y = .ref d ∧ DxAt X.prog X.w H d ps ∧ KeyAt H b k ∧ Q (.bl (!(valV ps k).isSome)) H) := by
  intro pins s σ H x y v u Q I rx ry h
  obtain ⟨d, b, ps, k, rfl, rfl, ⟨kvs, e, rfl, ka⟩, hk, q⟩ := h
  cases rx
  cases ry
  obtain ⟨z, hd, xs, r, dd⟩ := dx_of I.hok e ka
  refine wpAny_notIn_heap (tupleKind_room_in1 hu) (hk.is I.hok) hd dd ?_
  have e2 := (dx_val r k).isSome_eq
  rw [Option.isSome_map] at e2
  rw [← e2]
  exact ⟨.bl _, H, I.tok _, rfl, q⟩
theorem ix_dx (hu : X.A.units + 1 < cLine) : IxR X (fun x y H Q => ∃ d b ps k v, x = .ref d ∧ y = .ref b ∧ DxAt X.prog X.w H d ps ∧ KeyAt H b k ∧ valV ps k = some v ∧ Q v H) := by
  intro value slice pins s σ H x y v u Q I rx ry h hs
  obtain ⟨d, b, ps, k, r, rfl, rfl, ⟨kvs, e, rfl, ka⟩, hk, hv, q⟩ := h
  cases rx
  cases ry
  obtain ⟨z, hd, xs, rel, dd⟩ := dx_of I.hok e ka
  obtain ⟨w', hw, rw'⟩ := RelO.some_of (v := r) (o := (atKey xs k).map (·.2)) (by rw [← hv]; exact dx_val rel k)
  obtain ⟨p, hp, hp2⟩ := Option.map_eq_some_iff.mp hw
  refine tail_any dd.typeIs slot_dict_getitem.lookup (wpAny_getItem_heap (tupleKind_room_in1 hu) (hk.is I.hok) dd hp ?_) hs
  rw [hp2]
  exact ⟨r, H, I.tok _, rw', q⟩
/-- d[b] = v, the key is new -/
theorem set_dx (hu : X.A.units + 1 < cLine) : PSet X (fun o i v H Q => ∃ d b kvs k, o = .ref d ∧ i = .ref b ∧ H d = some (DX X.prog X.w d kvs) ∧ (∀ p ∈ kvs, KeyAt H p.2.1 p.1) ∧ KeyAt H b k ∧ valV (kvs.map fun p => (p.1, p.2.2)) k = none ∧ kvs.length < sizeLine ∧
    Q (upd H d (DX X.prog X.w d (kvs ++ [(k, b, v)])))) := by
  intro pins s σ H o i v ov iv u Q I ro ri rv h
  obtain ⟨d, b, kvs, k, rfl, rfl, e, ka, hk, hv, hl, q⟩ := h
  cases ro
  cases ri
  obtain ⟨z, hd, xs, rel, dd⟩ := dx_of I.hok e ka
  have hlen := Paired.length rel
  have hn : atKey xs k = none := by
    have e2 := (dx_val rel k).isSome_eq
    rw [Option.isSome_map, hv] at e2
    cases hx : atKey xs k with
    | none => rfl
    | some p => rw [hx] at e2; cases e2
  refine wpAny_setItem_heap (hsz := by rw [← hlen]; exact z) (tupleKind_room_in1 hu) (hk.is I.hok) dd fun h' dd' hs => ?_
  have es : storedH xs k b u = xs ++ [(k, b, u)] := by
    unfold storedH
    rw [hn]
    rfl
  rw [es] at dd'
  obtain ⟨ob, en, ep, hq, h2, h3, h4, _, h5⟩ := dd'
  refine ⟨_, I.write (x := d) (e := d) (by rw [e]; exact True.intro) (.inl rfl) (fun c y hb z => (hs.2 c hb).trans z) ⟨ob, hq⟩ (dx_ok ⟨?_, hd, _, Paired.snoc rel ⟨rfl, rfl, rv⟩, ob, en, ep, hq, h2, h3, h4, h5⟩), q⟩
  rw [List.length_append]
  exact hl
theorem pe_dnewX {pos : Pos} : PE X (.Dict [] [] pos) (fun _ H Q => ∀ p, H p = none → Q (.ref p) (upd H p (DX X.prog X.w p []))) := ⟨fun pins s σ H Q I h =>
  wpAny_Dict_empty ⟨.ref s.heap.objs.size, _, I.laid (a := s.heap.objs.size) (o := DX X.prog X.w s.heap.objs.size []) (t' := s.toks) (fun _ _ q => Heap.get?_push_of_some _ q) (Nat.le_refl _)
    (dx_ok ⟨Nat.zero_le _, beq_eq_false_iff_ne.mpr (Ne.symm (Nat.ne_of_lt I.big)), [], .nil, _, #[], 0, Heap.get?_push_size _ rfl, ⟨rfl, rfl, rfl⟩, rfl, rfl, List.nodup_nil⟩), rfl, h _ (I.hok.fresh (Nat.le_refl _))⟩⟩
end
end L2

set_option maxHeartbeats 4000000
/-! zip and enumerate over lists and tuples in any mix -/
namespace L2
open PySem PySem.Spec PyProof.Rows RZ
def IterK (k : Kind) (h : Heap) (it a : Addr) (i : Nat) : Prop := match k with
  | .l => h.IsListIter it a i
  | .t => h.IsTupleIter it a i
def SeqK (k : Kind) (h : Heap) (a : Addr) (its : Array Value) : Prop := match k with
  | .l => h.IsList a its
  | .t => h.IsTuple a its
def begO (k : Kind) (a : Addr) : Obj := match k with
  | .l => { cls := .type "list_iterator", data := .fields #[.ref a, .int 0 0] }
  | .t => { cls := .type "tuple_iterator", data := .fields #[.ref a, .int 0 0] }
theorem begins_k (k : Kind) (a : Addr) (its : Array Value) : Begins (.ref a) (begO k a) fun h => SeqK k h a its := by
  cases k
  · exact begins_list a its
  · exact begins_tuple a its
theorem iter_0 {k : Kind} {h : Heap} {it a : Addr} (e : h.get? it = some (begO k a)) : IterK k h it a 0 := by
  cases k
  · exact ⟨_, e, rfl, rfl⟩
  · exact ⟨_, e, rfl, rfl⟩
theorem iterK_at {k : Kind} {h h' : Heap} {it a : Addr} {i : Nat} (x : IterK k h it a i) (e : ∀ o, h.get? it = some o → h'.get? it = some o) : IterK k h' it a i := by
  cases k
  · exact x.at e
  · exact x.at e
theorem iterK_obj {k : Kind} {h : Heap} {it a : Addr} {i : Nat} (x : IterK k h it a i) : ∃ o, h.get? it = some o ∧ ∀ v, o.data ≠ .cell v := by
  cases k
  · obtain ⟨o, e, _, d⟩ := x
    exact ⟨o, e, fun v z => by rw [d] at z; cases z⟩
  · obtain ⟨o, e, _, d⟩ := x
    exact ⟨o, e, fun v z => by rw [d] at z; cases z⟩
theorem seqK_lt {k : Kind} {h : Heap} {a : Addr} {its : Array Value} (x : SeqK k h a its) : a < h.objs.size := by
  cases k
  · obtain ⟨o, e, _⟩ := x; exact Heap.lt_size e
  · obtain ⟨o, e, _⟩ := x; exact Heap.lt_size e
theorem draws_k {P : Program} {w : World} {A : Around} (k : Kind) (hh : A.handled = none) (it a : Addr) (hne : a ≠ it) (its : Array Value) :
    Draws P w A it [it, a] its.size (fun i v => its[i]? = some v) (fun i h => IterK k h it a i ∧ SeqK k h a its) := by
  cases k
  · exact Draws.list hh it a hne its
  · exact Draws.tuple hh it a hne its
theorem seq_k {X : Cx} {pins : List (Addr × Obj)} {σ : L2.St} {H : Hp} {s : Shared} {k : Kind} {a : Addr} {xs : List V} (I : Inv X pins σ H s) (h : Sk X.K k H a xs) : ∃ its : List Value, Vals xs its ∧ SeqK k s.heap a its.toArray := by
  cases k
  · obtain ⟨its, r, p, _⟩ := I.list h
    exact ⟨its, r, p.isList⟩
  · obtain ⟨its, r, p, _⟩ := I.tuple h
    exact ⟨its, r, p⟩
theorem sk_inj {X : Cx} {pins : List (Addr × Obj)} {σ : L2.St} {H : Hp} {s : Shared} {k : Kind} {a : Addr} {xs ys : List V} (I : Inv X pins σ H s) (h : Sk X.K k H a xs) (h' : Sk X.K k H a ys) : xs = ys := by
  cases k
  · exact I.list_inj h h'
  · exact I.tuple_inj h h'
/-! ### zip -/
def ItM (K : PySem.W.Frag) (k1 k2 : Kind) (a b : Addr) : It :=
  ⟨fun i H => ∃ (xs ys : List V), Sk K k1 H a xs ∧ Sk K k2 H b ys ∧ i < xs.length ∧ i < ys.length,
    fun i H v H' => ∃ T x y, v = .ref T ∧ H T = none ∧ H' = upd H T (.tup [x, y]) ∧ (∀ xs, Sk K k1 H a xs → xs[i]? = some x) ∧ ∀ ys, Sk K k2 H b ys → ys[i]? = some y,
    fun i H => ∃ (xs ys : List V), Sk K k1 H a xs ∧ Sk K k2 H b ys ∧ i ≤ xs.length ∧ i ≤ ys.length ∧ (i = xs.length ∨ i = ys.length)⟩
theorem walk_m {K : PySem.W.Frag} {k1 k2 : Kind} {a b : Addr} {xs ys : List V} {n : Nat} (hn : n = min xs.length ys.length) : Walk (ItM K k1 k2 a b) n (fun H => Sk K k1 H a xs ∧ Sk K k2 H b ys) (YPair (fun i => xs[i]?) (fun i => ys[i]?)) :=
  ⟨fun i H hi q => ⟨xs, ys, q.1, q.2, by omega, by omega⟩, fun H q => ⟨xs, ys, q.1, q.2, by omega, by omega, by omega⟩, fun i H v H' hi q y => by
    obtain ⟨T, x, z, rfl, hT, rfl, f1, f2⟩ := y
    exact ⟨T, x, z, rfl, hT, rfl, f1 xs q.1, f2 ys q.2⟩⟩
theorem turn_m {P : Program} {w : World} {K : PySem.W.Frag} {k1 k2 : Kind} {elts : List Expr} {kk : Nat} {tpos : Pos} {a b z TI TO i1 i2 : Addr} (S : ZipSep2 z TI TO i1 i2 [i1, a] [i2, b]) (na : a ≠ i1) (nb : b ≠ i2) :
    Turn P w K (.Tuple elts kk tpos) (ItM K k1 k2 a b) [z, TI, TO, i1, i2] z (fun i h => IsZip h z TI TO .none ∧ IsTupOf2 h TI (.ref i1) (.ref i2) ∧ (∃ x y, IsTupOf2 h TO x y) ∧ IterK k1 h i1 a i ∧ IterK k2 h i2 b i) where
  mem := List.mem_cons_self
  obj := fun i h st c hc => by
    obtain ⟨g1, g2, ⟨x, y, g3⟩, g4, g5⟩ := st
    simp only [List.mem_cons, List.not_mem_nil, or_false] at hc
    rcases hc with rfl | rfl | rfl | rfl | rfl
    · exact ⟨_, g1, fun v e => by cases e⟩
    · exact ⟨_, g2, fun v e => by cases e⟩
    · exact ⟨_, g3, fun v e => by cases e⟩
    · exact iterK_obj g4
    · exact iterK_obj g5
  keep := fun i h h' st kp => by
    obtain ⟨g1, g2, ⟨x, y, g3⟩, g4, g5⟩ := st
    exact ⟨kp z (by simp) _ g1, kp TI (by simp) _ g2, ⟨x, y, kp TO (by simp) _ g3⟩, iterK_at g4 fun o e => kp i1 (by simp) o e, iterK_at g5 fun o e => kp i2 (by simp) o e⟩
  item := by
    intro X eP ew eK calm i pins s σ H E I own st go
    subst eP ew eK
    obtain ⟨g1, g2, ⟨x0, y0, g3⟩, g4, g5⟩ := st
    obtain ⟨xs, ys, qx, qy, lx, ly⟩ := go
    obtain ⟨us, ru, pu⟩ := seq_k I qx
    obtain ⟨vs, rv, pv⟩ := seq_k I qy
    have hu := ru.length
    have hv := rv.length
    have zlt : z < s.heap.objs.size := Heap.lt_size g1
    have D1 := draws_k (P := X.prog) (w := X.w) (A := X.A.in1) k1 (I.ok.hd calm) i1 a na us.toArray
    have D2 := draws_k (P := X.prog) (w := X.w) (A := X.A.in1) k2 (I.ok.hd calm) i2 b nb vs.toArray
    refine wpAny_pyNext_zipD2_item S D1 D2 g1 g2 g3 ⟨g4, pu⟩ ⟨g5, pv⟩ (by simp; omega) (by simp; omega) fun x1 x2 h' tk px py z' t' s1 s2 nt hsz kp => ?_
    obtain ⟨v1, e1, r1⟩ : ∃ v1, xs[i]? = some v1 ∧ RelV v1 x1 := by
      have ex : xs[i]? = some xs[i] := List.getElem?_eq_getElem lx
      obtain ⟨u, hu', ru'⟩ := ru.get ex
      have : u = x1 := by
        have px' : us[i]? = some x1 := by simpa using px
        rw [hu'] at px'
        exact Option.some.inj px'
      exact ⟨_, ex, this ▸ ru'⟩
    obtain ⟨v2, e2, r2⟩ : ∃ v2, ys[i]? = some v2 ∧ RelV v2 x2 := by
      have ey : ys[i]? = some ys[i] := List.getElem?_eq_getElem ly
      obtain ⟨u, hu', ru'⟩ := rv.get ey
      have : u = x2 := by
        have py' : vs[i]? = some x2 := by simpa using py
        rw [hu'] at py'
        exact Option.some.inj py'
      exact ⟨_, ey, this ▸ ru'⟩
    refine ⟨_, rfl, wpAny_letOwnedTupleGo_zip (s := { s with heap := h', toks := tk }) z' fun g z'' sb => ?_⟩
    have nt2 : g.get? s.heap.objs.size = some { cls := .type "tuple", data := .seq #[x1, x2] } := (sb.2 _ (Nat.ne_of_gt zlt)).trans nt
    have ob : ObjOk X.prog X.w (upd H s.heap.objs.size (.tup [v1, v2])) g s.heap.objs.size (.tup [v1, v2]) :=
      ⟨by show 2 ≤ sizeLine; decide, [x1, x2], .cons r1 (.cons r2 .nil), _, nt2, rfl, _, rfl⟩
    have all : ∀ c o, ¬ c ∈ [z, TI, TO, i1, i2] → s.heap.get? c = some o → g.get? c = some o := fun c o hn e => by
      simp only [List.mem_cons, List.not_mem_nil, or_false, not_or] at hn
      exact (sb.2 c hn.1).trans (kp c o hn.1 hn.2.2.1 hn.2.2.2.1 hn.2.2.2.2 e)
    have J := I.turnedNew (t' := tk) (ch := [z, TI, TO, i1, i2]) all own (Nat.le_refl _) ob
    have sz1 := S.zf1
    have sz2 := S.zf2
    simp only [List.mem_cons, List.not_mem_nil, or_false, not_or] at sz1 sz2
    refine ⟨.ref s.heap.objs.size, _, J, rfl, ⟨_, v1, v2, rfl, I.hok.fresh (Nat.le_refl _), rfl, fun l hl => by rw [sk_inj I hl qx]; exact e1, fun l hl => by rw [sk_inj I hl qy]; exact e2⟩, ⟨z'', ?_, ⟨x1, x2, ?_⟩, ?_, ?_⟩, fun c hc => ?_⟩
    · have := (sb.2 TI S.TIz).trans (kp TI _ S.TIz S.TITO S.TIi1 S.TIi2 g2)
      exact this
    · exact (sb.2 TO S.TOz).trans t'
    · exact iterK_at s1.1 fun o e => (sb.2 i1 (fun q => sz1.1 q.symm)).trans e
    · exact iterK_at s2.1 fun o e => (sb.2 i2 (fun q => sz2.1 q.symm)).trans e
    · have clt : c < s.heap.objs.size := by
        simp only [List.mem_cons, List.not_mem_nil, or_false] at hc
        rcases hc with rfl | rfl | rfl | rfl | rfl
        · exact zlt
        · exact Heap.lt_size g2
        · exact Heap.lt_size g3
        · obtain ⟨_, e, _⟩ := iterK_obj g4; exact Heap.lt_size e
        · obtain ⟨_, e, _⟩ := iterK_obj g5; exact Heap.lt_size e
      rw [upd_ne (Nat.ne_of_lt clt)]
      exact (own c hc).1
  done := by
    intro X eP ew eK calm i pins s σ H E I own st go
    subst eP ew eK
    obtain ⟨g1, g2, ⟨x0, y0, g3⟩, g4, g5⟩ := st
    obtain ⟨xs, ys, qx, qy, lx, ly, le⟩ := go
    obtain ⟨us, ru, pu⟩ := seq_k I qx
    obtain ⟨vs, rv, pv⟩ := seq_k I qy
    have hu := ru.length
    have hv := rv.length
    have D1 := draws_k (P := X.prog) (w := X.w) (A := X.A.in1) k1 (I.ok.hd calm) i1 a na us.toArray
    have D2 := draws_k (P := X.prog) (w := X.w) (A := X.A.in1) k2 (I.ok.hd calm) i2 b nb vs.toArray
    refine wpAny_pyNext_zipD2_end S D1 D2 g1 g2 g3 ⟨g4, pu⟩ ⟨g5, pv⟩ (by simp; omega) (by simp; omega) (by simp; omega) fun h' tk kp => ⟨rfl, ?_⟩
    refine I.turnedL (t' := tk) (ch := [z, TI, TO, i1, i2]) (fun c o hn e => ?_) own
    simp only [List.mem_cons, List.not_mem_nil, or_false, not_or] at hn
    exact kp c o hn.1 hn.2.2.1 hn.2.2.2.1 hn.2.2.2.2 e
  self := fun A i s Q E st h => wpAny_pyIter_zip st.1 h
/-- zip of a list or a tuple with a list or a tuple -/
def iZipM (K : PySem.W.Frag) (ta : TA) : TI := fun σ H R => ta σ H fun vs H1 => ∃ k1 k2 a b xs ys, vs = [.ref a, .ref b] ∧ Sk K k1 H1 a xs ∧ Sk K k2 H1 b ys ∧ R (ItM K k1 k2 a b) H1
theorem pi_zipM {X : Cx} {e e2 : Expr} {ta : TA} {p pos tpos : Pos} {elts : List Expr} {kk : Nat} (hg : Gl X "zip") (hm : X.mg "zip" = none) (ha : PA X [e, e2] ta)
    (hs : starEach [e, e2] X.env = (false, eval e X.env) :: starEach [e2] X.env := by rfl) (hpl : (backTo pos (starEach [e2] X.env)).any (·.1) = false := by rfl) :
    PI X (.Tuple elts kk tpos) (.Call (.Name "zip" p) [e, e2] [] pos) (iZipM X.K ta) := by
  refine ⟨fun pins s σ H R I h => Call_ (ld_blt I hg hm PyProof.Rows.boot_zip (PyProof.Rows.callWith_type1 (thn (ha.run pos pins s σ H _ I h) fun us t q => ?_) hs hpl))⟩
  obtain ⟨vs, G, J, r1, k1, k2, a, b, xs, ys, ev, qx, qy, q⟩ := q
  subst ev
  cases r1 with
  | cons ra rr =>
    cases rr with
    | cons rb rr =>
      cases rr
      cases ra
      cases rb
      obtain ⟨us, ru, pu⟩ := seq_k J qx
      obtain ⟨ws, rw_, pw⟩ := seq_k J qy
      have la := seqK_lt pu
      have lb := seqK_lt pw
      generalize hN : t.heap.objs.size = N at la lb
      refine zip_begins2 (begins_k k1 a us.toArray) (begins_k k2 b ws.toArray) pu pw fun h' g1 g2 g3 g4 g5 hsz kp => wpAny_pyIter_zip g1 ?_
      rw [hN] at g1 g2 g3 g4 g5
      rw [hN]
      have J2 : Inv X pins σ G { t with heap := h' } := J.kept (t' := t.toks) kp
      have S : ZipSep2 (N + 4) (N + 2) (N + 3) N (N + 1) [N, a] [N + 1, b] :=
        zip_sep2 (fp1 := [a]) (fp2 := [b]) (fun c hc => by rw [List.mem_singleton.mp hc]; exact la) (fun c hc => by rw [List.mem_singleton.mp hc]; exact lb)
      refine ⟨N + 4, [N + 4, N + 2, N + 3, N, N + 1], _, _, G, rfl, J2, turn_m (k1 := k1) (k2 := k2) S (Nat.ne_of_lt la) (Nat.ne_of_lt (Nat.lt_succ_of_lt lb)), ⟨g1, g2, ⟨_, _, g3⟩, iter_0 g4, iter_0 g5⟩, fun c hc => ?_, q⟩
      have le : t.heap.objs.size ≤ c := by
        rw [hN]
        simp only [List.mem_cons, List.not_mem_nil, or_false] at hc
        rcases hc with h1 | h1 | h1 | h1 | h1 <;> rw [h1]
        · exact Nat.le_add_right N 4
        · exact Nat.le_add_right N 2
        · exact Nat.le_add_right N 3
        · exact Nat.le_refl N
        · exact Nat.le_add_right N 1
      exact J.fpOk le (J.hok.fresh le)
end L2

namespace LF
section
variable {κ : Type} [DecidableEq κ]
/-! ### places in a list -/
def ix : List κ → κ → Nat
  | [], _ => 0
  | a :: l, k => if a = k then 0 else ix l k + 1
theorem ix_lt : ∀ {l : List κ} {k : κ}, k ∈ l → ix l k < l.length
  | [], _, h => by cases h
  | a :: l, k, h => by
    unfold ix
    by_cases e : a = k
    · rw [if_pos e]; exact Nat.succ_pos _
    · rw [if_neg e]
      rcases List.mem_cons.mp h with rfl | h
      · exact absurd rfl e
      · exact Nat.succ_lt_succ (ix_lt h)
theorem get_ix : ∀ {l : List κ} {k : κ}, k ∈ l → l[ix l k]? = some k
  | [], _, h => by cases h
  | a :: l, k, h => by
    unfold ix
    by_cases e : a = k
    · rw [if_pos e, e]; rfl
    · rw [if_neg e]
      rcases List.mem_cons.mp h with rfl | h
      · exact absurd rfl e
      · exact get_ix h
theorem ix_get : ∀ {l : List κ} {i : Nat} {k : κ}, l.Nodup → l[i]? = some k → ix l k = i
  | [], _, _, _, h => by simp at h
  | a :: l, 0, k, _, h => by
    have e : a = k := by simpa using h
    unfold ix
    rw [if_pos e]
  | a :: l, i + 1, k, hn, h => by
    have h' : l[i]? = some k := by simpa using h
    have hm : k ∈ l := List.mem_of_getElem? h'
    have hn' := List.nodup_cons.mp hn
    have e : ¬ a = k := fun e => hn'.1 (e ▸ hm)
    unfold ix
    rw [if_neg e, ix_get hn'.2 h']
theorem ix_app : ∀ {l m : List κ} {k : κ}, k ∈ l → ix (l ++ m) k = ix l k
  | [], _, _, h => by cases h
  | a :: l, m, k, h => by
    rw [List.cons_append]
    unfold ix
    by_cases e : a = k
    · rw [if_pos e, if_pos e]
    · rw [if_neg e, if_neg e]
      rcases List.mem_cons.mp h with rfl | h
      · exact absurd rfl e
      · rw [ix_app h]
theorem ix_new : ∀ {l : List κ} {k : κ}, ¬ k ∈ l → ∀ m, ix (l ++ k :: m) k = l.length
  | [], k, _, m => by
    show ix (k :: m) k = 0
    unfold ix
    rw [if_pos rfl]
  | a :: l, k, h, m => by
    rw [List.cons_append]
    unfold ix
    have h' := fun z => h (List.mem_cons_of_mem a z)
    rw [if_neg (fun e : a = k => h (by rw [e]; exact List.mem_cons_self)), ix_new h' m]
    rfl
theorem ix_inj {l : List κ} {a b : κ} (ha : a ∈ l) (hb : b ∈ l) (e : ix l a = ix l b) : a = b := by
  have h1 := get_ix ha
  have h2 := get_ix hb
  rw [e, h2] at h1
  exact (Option.some.inj h1).symm
theorem ix_map {μ : Type} [DecidableEq μ] (f : κ → μ) : ∀ {l : List κ} {k : κ}, (∀ a ∈ l, f a = f k → a = k) → ix (l.map f) (f k) = ix l k
  | [], _, _ => rfl
  | a :: l, k, h => by
    rw [List.map_cons]
    unfold ix
    by_cases e : a = k
    · rw [if_pos e, if_pos (congrArg f e)]
    · rw [if_neg e, if_neg (fun z => e (h a List.mem_cons_self z)), ix_map f (fun b hb => h b (List.mem_cons_of_mem _ hb))]
/-! ### each once, in the order of the first places -/
def push (s : List κ) (k : κ) : List κ := if k ∈ s then s else s ++ [k]
def uniq (ks : List κ) : List κ := ks.foldl push []
def numb (ks : List κ) : List Nat := ks.map fun k => ix (uniq ks) k
theorem mem_push {s : List κ} {k x : κ} : x ∈ push s k ↔ x ∈ s ∨ x = k := by
  unfold push
  by_cases h : k ∈ s
  · rw [if_pos h]
    exact ⟨.inl, fun z => z.elim id fun e => e ▸ h⟩
  · rw [if_neg h, List.mem_append, List.mem_singleton]
theorem fold_mem : ∀ {ks s : List κ} {x : κ}, x ∈ ks.foldl push s ↔ x ∈ s ∨ x ∈ ks
  | [], s, x => by simp
  | k :: ks, s, x => by
    rw [List.foldl_cons, fold_mem, mem_push, List.mem_cons]
    constructor
    · rintro ((h | h) | h)
      · exact .inl h
      · exact .inr (.inl h)
      · exact .inr (.inr h)
    · rintro (h | h | h)
      · exact .inl (.inl h)
      · exact .inl (.inr h)
      · exact .inr h
theorem uniq_mem {ks : List κ} {x : κ} : x ∈ uniq ks ↔ x ∈ ks := by
  unfold uniq
  rw [fold_mem]
  simp
theorem nodup_snoc {s : List κ} {k : κ} (h : s.Nodup) (hk : ¬ k ∈ s) : (s ++ [k]).Nodup := by
  rw [List.nodup_append]
  refine ⟨h, by simp, fun a ha b hb => ?_⟩
  rw [List.mem_singleton] at hb
  rintro rfl
  exact hk (hb ▸ ha)
theorem push_nodup {s : List κ} {k : κ} (h : s.Nodup) : (push s k).Nodup := by
  unfold push
  by_cases hk : k ∈ s
  · rw [if_pos hk]; exact h
  · rw [if_neg hk]; exact nodup_snoc h hk
theorem fold_nodup : ∀ {ks s : List κ}, s.Nodup → (ks.foldl push s).Nodup
  | [], _, h => h
  | k :: ks, s, h => by rw [List.foldl_cons]; exact fold_nodup (push_nodup h)
theorem uniq_nodup {ks : List κ} : (uniq ks).Nodup := fold_nodup List.nodup_nil
theorem fold_pre : ∀ (ks s : List κ), ∃ t, ks.foldl push s = s ++ t
  | [], s => ⟨[], by simp⟩
  | k :: ks, s => by
    obtain ⟨t, e⟩ := fold_pre ks (push s k)
    rw [List.foldl_cons, e]
    unfold push
    by_cases h : k ∈ s
    · rw [if_pos h]; exact ⟨t, rfl⟩
    · rw [if_neg h, List.append_assoc]; exact ⟨_, rfl⟩
theorem uniq_snoc (ks : List κ) (k : κ) : uniq (ks ++ [k]) = push (uniq ks) k := by
  unfold uniq
  rw [List.foldl_append]
  rfl
theorem uniq_pre (ks ls : List κ) : ∃ t, uniq (ks ++ ls) = uniq ks ++ t := by
  unfold uniq
  rw [List.foldl_append]
  exact fold_pre ls _
theorem fold_len : ∀ (ks s : List κ), (ks.foldl push s).length ≤ s.length + ks.length
  | [], s => by simp
  | k :: ks, s => by
    rw [List.foldl_cons]
    have h := fold_len ks (push s k)
    have h2 : (push s k).length ≤ s.length + 1 := by
      unfold push
      by_cases hk : k ∈ s
      · rw [if_pos hk]; omega
      · rw [if_neg hk, List.length_append]; simp
    rw [List.length_cons]
    omega
theorem uniq_len (ks : List κ) : (uniq ks).length ≤ ks.length := by
  have := fold_len ks []
  simpa [uniq] using this
theorem numb_len (ks : List κ) : (numb ks).length = ks.length := by unfold numb; rw [List.length_map]
theorem numb_get {ks : List κ} {i : Nat} {k : κ} (h : ks[i]? = some k) : (numb ks)[i]? = some (ix (uniq ks) k) := by
  unfold numb
  rw [List.getElem?_map, h]
  rfl
theorem fold_map {μ : Type} [DecidableEq μ] (f : κ → μ) : ∀ {ks s : List κ}, (∀ a b, (a ∈ ks ∨ a ∈ s) → (b ∈ ks ∨ b ∈ s) → f a = f b → a = b) → (ks.map f).foldl push (s.map f) = (ks.foldl push s).map f
  | [], s, _ => rfl
  | k :: ks, s, h => by
    rw [List.map_cons, List.foldl_cons, List.foldl_cons]
    have e : push (s.map f) (f k) = (push s k).map f := by
      unfold push
      by_cases hk : k ∈ s
      · rw [if_pos hk, if_pos (List.mem_map_of_mem hk)]
      · have : ¬ f k ∈ s.map f := fun z => by
          obtain ⟨a, ha, e⟩ := List.mem_map.mp z
          have := h a k (.inr ha) (.inl List.mem_cons_self) e
          exact hk (this ▸ ha)
        rw [if_neg hk, if_neg this, List.map_append]
        rfl
    rw [e]
    refine fold_map f fun a b ha hb => h a b ?_ ?_
    · rcases ha with ha | ha
      · exact .inl (List.mem_cons_of_mem _ ha)
      · exact (mem_push.mp ha).elim .inr fun z => .inl (z ▸ List.mem_cons_self)
    · rcases hb with hb | hb
      · exact .inl (List.mem_cons_of_mem _ hb)
      · exact (mem_push.mp hb).elim .inr fun z => .inl (z ▸ List.mem_cons_self)
theorem uniq_map {μ : Type} [DecidableEq μ] (f : κ → μ) {ks : List κ} (h : ∀ a b, a ∈ ks → b ∈ ks → f a = f b → a = b) : uniq (ks.map f) = (uniq ks).map f := by
  have := fold_map (s := []) f (ks := ks) fun a b ha hb => h a b (by simpa using ha) (by simpa using hb)
  simpa [uniq] using this
theorem numb_map {μ : Type} [DecidableEq μ] (f : κ → μ) {ks : List κ} (h : ∀ a b, a ∈ ks → b ∈ ks → f a = f b → a = b) : numb (ks.map f) = numb ks := by
  unfold numb
  rw [uniq_map f h, List.map_map]
  refine List.map_congr_left fun k hk => ?_
  exact ix_map f fun a ha e => h a k (uniq_mem.mp ha) hk e
/-- lists with the same pattern have the same numbers -/
theorem numb_congr {μ : Type} [DecidableEq μ] {ks : List κ} {ls : List μ} (hl : ks.length = ls.length) (h : ∀ (i j : Nat) (a b : κ) (c d : μ), ks[i]? = some a → ks[j]? = some b → ls[i]? = some c → ls[j]? = some d → (a = b ↔ c = d)) : numb ks = numb ls := by
  by_cases hz : ls = []
  · subst hz
    have : ks = [] := List.length_eq_zero_iff.mp hl
    subst this
    rfl
  obtain ⟨d0, _, _⟩ := List.exists_cons_of_ne_nil hz
  let f : κ → μ := fun k => ls.getD (ix ks k) d0
  have hf : ∀ (i : Nat) (a : κ), ks[i]? = some a → ls[i]? = some (f a) := by
    intro i a hi
    have hm := List.mem_of_getElem? hi
    have h1 := get_ix hm
    have hlt := ix_lt hm
    have hlt2 : ix ks a < ls.length := by rw [← hl]; exact hlt
    have hi2 : i < ls.length := by rw [← hl]; exact (List.getElem?_eq_some_iff.mp hi).1
    have e1 : ls[ix ks a]? = some ls[ix ks a] := List.getElem?_eq_getElem hlt2
    have e2 : ls[i]? = some ls[i] := List.getElem?_eq_getElem hi2
    have := (h i (ix ks a) a a _ _ hi h1 e2 e1).mp rfl
    show ls[i]? = some (ls.getD (ix ks a) d0)
    rw [List.getD_eq_getElem?_getD, e1, e2, this]
    rfl
  have e : ls = ks.map f := by
    refine List.ext_getElem? fun i => ?_
    rw [List.getElem?_map]
    cases hi : ks[i]? with
    | none =>
      rw [List.getElem?_eq_none_iff] at hi
      exact List.getElem?_eq_none_iff.mpr (by rw [← hl]; exact hi)
    | some a => exact hf i a hi
  rw [e]
  refine (numb_map f fun a b ha hb z => ?_).symm
  obtain ⟨i, hi⟩ := List.getElem?_of_mem ha
  obtain ⟨j, hj⟩ := List.getElem?_of_mem hb
  exact (h i j a b _ _ hi hj (hf i a hi) (hf j b hj)).mpr z
theorem numb_iff {ks : List κ} {i j : Nat} {a b : κ} (hi : ks[i]? = some a) (hj : ks[j]? = some b) : ((numb ks).getD i 0 = (numb ks).getD j 0) ↔ a = b := by
  rw [List.getD_eq_getElem?_getD, List.getD_eq_getElem?_getD, numb_get hi, numb_get hj]
  constructor
  · intro e
    exact ix_inj (uniq_mem.mpr (List.mem_of_getElem? hi)) (uniq_mem.mpr (List.mem_of_getElem? hj)) e
  · rintro rfl
    rfl
end
end LF

namespace LF
section
variable {L : Type} [DecidableEq L]
/-- a row: next and word after a call of the case ahead, next and word after a call of the other one -/
abbrev Row (L : Type) := Nat × L × Nat × L
def TOk (rows : List (Row L)) : Prop := ∀ r ∈ rows, r.1 < rows.length ∧ r.2.2.1 < rows.length
def at_ (cs : List Nat) (i : Nat) : Nat := cs.getD i 0
def key1 (r : Row L) : L × L := (r.2.1, r.2.2.2)
def key2 (cs : List Nat) (x : Row L × Nat) : Nat × Nat × Nat := (at_ cs x.2, at_ cs x.1.1, at_ cs x.1.2.2.1)
def split (rows : List (Row L)) (cs : List Nat) : List Nat := numb (rows.zipIdx.map (key2 cs))
def chain (rows : List (Row L)) : Nat → List Nat
  | 0 => numb (rows.map key1)
  | k + 1 => split rows (chain rows k)
def classes (rows : List (Row L)) : List Nat := chain rows rows.length
/-- one call: the word, the next state -/
def stp (rows : List (Row L)) (s : Nat) (b : Bool) : Option (L × Nat) := rows[s]?.map fun r => if b = true then (r.2.2.2, r.2.2.1) else (r.2.1, r.1)
/-- the words of a row of calls -/
def out (rows : List (Row L)) : Nat → List Bool → List (Option L)
  | _, [] => []
  | s, b :: w => match stp rows s b with
    | none => [none]
    | some (l, t) => some l :: out rows t w
variable {rows : List (Row L)}
theorem chain_len (k : Nat) : (chain rows k).length = rows.length := by
  cases k with
  | zero => unfold chain; rw [numb_len, List.length_map]
  | succ k => unfold chain split; rw [numb_len, List.length_map, List.length_zipIdx]
theorem out_cons {s : Nat} {b : Bool} {w : List Bool} {r : Row L} (h : rows[s]? = some r) : out rows s (b :: w) = some (if b = true then r.2.2.2 else r.2.1) :: out rows (if b = true then r.2.2.1 else r.1) w := by
  cases b <;> simp [out, stp, h]
/-- equal up to words of length k -/
def Eqv (rows : List (Row L)) (k i j : Nat) : Prop := ∀ w : List Bool, w.length ≤ k → out rows i w = out rows j w
theorem zip_get {i : Nat} {r : Row L} (h : rows[i]? = some r) : (rows.zipIdx)[i]? = some (r, i) := by
  rw [List.getElem?_zipIdx, h]
  simp
theorem eqv_step {k i j : Nat} {r r' : Row L} (hi : rows[i]? = some r) (hj : rows[j]? = some r') :
    Eqv rows (k + 1) i j ↔ (key1 r = key1 r' ∧ Eqv rows k r.1 r'.1 ∧ Eqv rows k r.2.2.1 r'.2.2.1) := by
  constructor
  · intro h
    have h0 := h [false] (by simp)
    have h1 := h [true] (by simp)
    rw [out_cons hi, out_cons hj] at h0 h1
    have e0 : r.2.1 = r'.2.1 := by
      have := (List.cons.inj h0).1
      simpa using this
    have e1 : r.2.2.2 = r'.2.2.2 := by
      have := (List.cons.inj h1).1
      simpa using this
    refine ⟨by unfold key1; rw [e0, e1], fun w hw => ?_, fun w hw => ?_⟩
    · have h2 := h (false :: w) (by rw [List.length_cons]; omega)
      rw [out_cons hi, out_cons hj] at h2
      simpa using (List.cons.inj h2).2
    · have h2 := h (true :: w) (by rw [List.length_cons]; omega)
      rw [out_cons hi, out_cons hj] at h2
      simpa using (List.cons.inj h2).2
  · rintro ⟨hk, h0, h1⟩ w hw
    have e0 : r.2.1 = r'.2.1 := (Prod.mk.inj hk).1
    have e1 : r.2.2.2 = r'.2.2.2 := (Prod.mk.inj hk).2
    cases w with
    | nil => rfl
    | cons b w =>
      rw [List.length_cons] at hw
      rw [out_cons hi, out_cons hj]
      cases b
      · simp only [Bool.false_eq_true, if_false]
        rw [e0, h0 w (by omega)]
      · simp only [if_true]
        rw [e1, h1 w (by omega)]
theorem eqv_mono {k m i j : Nat} (h : Eqv rows k i j) (hm : m ≤ k) : Eqv rows m i j := fun w hw => h w (Nat.le_trans hw hm)
theorem chain_iff (ok : TOk rows) : ∀ (k : Nat) {i j : Nat}, i < rows.length → j < rows.length → (at_ (chain rows k) i = at_ (chain rows k) j ↔ Eqv rows (k + 1) i j)
  | 0, i, j, hi, hj => by
    have ei : rows[i]? = some rows[i] := List.getElem?_eq_getElem hi
    have ej : rows[j]? = some rows[j] := List.getElem?_eq_getElem hj
    rw [eqv_step ei ej]
    have := numb_iff (ks := rows.map key1) (i := i) (j := j) (a := key1 rows[i]) (b := key1 rows[j]) (by rw [List.getElem?_map, ei]; rfl) (by rw [List.getElem?_map, ej]; rfl)
    unfold at_ chain
    rw [this]
    refine ⟨fun h => ⟨h, fun w hw => ?_, fun w hw => ?_⟩, fun h => h.1⟩
    · have : w = [] := List.length_eq_zero_iff.mp (by omega)
      subst this; rfl
    · have : w = [] := List.length_eq_zero_iff.mp (by omega)
      subst this; rfl
  | k + 1, i, j, hi, hj => by
    have ei : rows[i]? = some rows[i] := List.getElem?_eq_getElem hi
    have ej : rows[j]? = some rows[j] := List.getElem?_eq_getElem hj
    have oi := ok _ (List.getElem_mem hi)
    have oj := ok _ (List.getElem_mem hj)
    have := numb_iff (ks := rows.zipIdx.map (key2 (chain rows k))) (i := i) (j := j) (a := key2 (chain rows k) (rows[i], i)) (b := key2 (chain rows k) (rows[j], j)) (by rw [List.getElem?_map, zip_get ei]; rfl) (by rw [List.getElem?_map, zip_get ej]; rfl)
    have e1 := chain_iff ok k hi hj
    have e2 := chain_iff ok k oi.1 oj.1
    have e3 := chain_iff ok k oi.2 oj.2
    have e : (at_ (chain rows (k + 1)) i = at_ (chain rows (k + 1)) j) ↔ key2 (chain rows k) (rows[i], i) = key2 (chain rows k) (rows[j], j) := this
    rw [e, eqv_step ei ej]
    unfold key2
    simp only [Prod.mk.injEq]
    rw [e1, e2, e3]
    constructor
    · rintro ⟨h1, h2, h3⟩
      exact ⟨((eqv_step ei ej).mp h1).1, h2, h3⟩
    · rintro ⟨h1, h2, h3⟩
      exact ⟨(eqv_step ei ej).mpr ⟨h1, eqv_mono h2 (by omega), eqv_mono h3 (by omega)⟩, h2, h3⟩
/-! ### the chain comes to rest -/
theorem getD_of {cs : List Nat} {i x : Nat} (h : cs[i]? = some x) : at_ cs i = x := by unfold at_; rw [List.getD_eq_getElem?_getD, h]; rfl
theorem get_of_lt {cs : List Nat} {i : Nat} (h : i < cs.length) : cs[i]? = some (at_ cs i) := by
  have : cs[i]? = some cs[i] := List.getElem?_eq_getElem h
  rw [this, getD_of this]
/-- numbers by the pattern alone -/
theorem numb_self {κ : Type} [DecidableEq κ] (ks : List κ) : numb (numb ks) = numb ks := by
  refine numb_congr (by rw [numb_len]) fun i j a b c d h1 h2 h3 h4 => ?_
  have := numb_iff h3 h4
  have e1 := getD_of h1
  have e2 := getD_of h2
  unfold at_ at e1 e2
  rw [e1, e2] at this
  exact this
theorem chain_numb (k : Nat) : numb (chain rows k) = chain rows k := by
  cases k with
  | zero => exact numb_self _
  | succ k => exact numb_self _
/-- where the chain rests it rests for ever -/
theorem chain_rest {k : Nat} (h : chain rows k = chain rows (k + 1)) : ∀ m, chain rows (k + m) = chain rows k
  | 0 => rfl
  | m + 1 => by
    show split rows (chain rows (k + m)) = _
    rw [chain_rest h m]
    exact h.symm
/-- the pattern of the next one is finer -/
theorem chain_fine (ok : TOk rows) {k i j : Nat} (hi : i < rows.length) (hj : j < rows.length) (h : at_ (chain rows (k + 1)) i = at_ (chain rows (k + 1)) j) : at_ (chain rows k) i = at_ (chain rows k) j :=
  (chain_iff ok k hi hj).mpr (eqv_mono ((chain_iff ok (k + 1) hi hj).mp h) (by omega))
end
end LF

namespace LF
theorem count_lt {α : Type} {p q : α → Bool} : ∀ {l : List α}, (∀ x ∈ l, p x = true → q x = true) → (∃ x ∈ l, q x = true ∧ ¬ p x = true) → l.countP p < l.countP q
  | [], _, ⟨x, hx, _⟩ => by cases hx
  | a :: l, h, ⟨x, hx, hq, hp⟩ => by
    have h' : ∀ x ∈ l, p x = true → q x = true := fun y hy => h y (List.mem_cons_of_mem _ hy)
    have le : l.countP p ≤ l.countP q := List.countP_mono_left h'
    rw [List.countP_cons, List.countP_cons]
    rcases List.mem_cons.mp hx with rfl | hx
    · rw [if_pos hq, if_neg hp]; omega
    · have lt := count_lt h' ⟨x, hx, hq, hp⟩
      by_cases pa : p a = true
      · rw [if_pos pa, if_pos (h a List.mem_cons_self pa)]; omega
      · rw [if_neg pa]; omega
def pairs (n : Nat) : List (Nat × Nat) := (List.range n).flatMap fun i => (List.range n).map fun j => (i, j)
theorem mem_pairs {n i j : Nat} : (i, j) ∈ pairs n ↔ i < n ∧ j < n := by
  unfold pairs
  simp [List.mem_flatMap]
theorem sum_const : ∀ (l : List Nat) (n : Nat), (l.map fun _ => n).sum = l.length * n
  | [], n => by simp
  | a :: l, n => by rw [List.map_cons, List.sum_cons, sum_const l n, List.length_cons, Nat.succ_mul]; omega
theorem pairs_len (n : Nat) : (pairs n).length = n * n := by
  unfold pairs
  simp [List.length_flatMap]
  rw [sum_const, List.length_range]
section
variable {L : Type} [DecidableEq L] {rows : List (Row L)}
def same_ (cs : List Nat) (p : Nat × Nat) : Bool := decide (at_ cs p.1 = at_ cs p.2)
def mass (rows : List (Row L)) (k : Nat) : Nat := (pairs rows.length).countP (same_ (chain rows k))
theorem mass_le (k : Nat) : mass rows k ≤ rows.length * rows.length := by
  have := List.countP_le_length (p := same_ (chain rows k)) (l := pairs rows.length)
  rw [pairs_len] at this
  exact this
theorem chain_eq {a b : Nat} (h : ∀ i j, i < rows.length → j < rows.length → (at_ (chain rows a) i = at_ (chain rows a) j ↔ at_ (chain rows b) i = at_ (chain rows b) j)) : chain rows a = chain rows b := by
  rw [← chain_numb a, ← chain_numb b]
  refine numb_congr (by rw [chain_len, chain_len]) fun i j x y u v h1 h2 h3 h4 => ?_
  have hi : i < rows.length := by rw [← chain_len (rows := rows) a]; exact (List.getElem?_eq_some_iff.mp h1).1
  have hj : j < rows.length := by rw [← chain_len (rows := rows) a]; exact (List.getElem?_eq_some_iff.mp h2).1
  have := h i j hi hj
  rw [getD_of h1, getD_of h2, getD_of h3, getD_of h4] at this
  exact this
theorem mass_lt (ok : TOk rows) {k : Nat} (h : ¬ chain rows k = chain rows (k + 1)) : mass rows (k + 1) < mass rows k := by
  have : ∃ i j, i < rows.length ∧ j < rows.length ∧ at_ (chain rows k) i = at_ (chain rows k) j ∧ ¬ at_ (chain rows (k + 1)) i = at_ (chain rows (k + 1)) j := by
    refine Classical.byContradiction fun n => h (chain_eq fun i j hi hj => ⟨fun e => ?_, chain_fine ok hi hj⟩)
    exact Classical.byContradiction fun ne => n ⟨i, j, hi, hj, e, ne⟩
  obtain ⟨i, j, hi, hj, e, ne⟩ := this
  unfold mass
  refine count_lt (fun p hp => ?_) ⟨(i, j), mem_pairs.mpr ⟨hi, hj⟩, decide_eq_true e, fun z => ne (of_decide_eq_true z)⟩
  obtain ⟨a, b⟩ := p
  have hab := mem_pairs.mp hp
  intro z
  exact decide_eq_true (chain_fine ok hab.1 hab.2 (of_decide_eq_true z))
theorem mass_low (ok : TOk rows) : ∀ k, (∀ j < k, ¬ chain rows j = chain rows (j + 1)) → mass rows k + k ≤ rows.length * rows.length
  | 0, _ => mass_le 0
  | k + 1, h => by
    have h1 := mass_low ok k fun j hj => h j (by omega)
    have h2 := mass_lt ok (h k (by omega))
    omega
def cls (rows : List (Row L)) : List Nat := chain rows (rows.length * rows.length)
/-- where it rests first, that is the classes -/
theorem cls_of (ok : TOk rows) {k : Nat} (hk : ∀ j < k, ¬ chain rows j = chain rows (j + 1)) (h : chain rows k = chain rows (k + 1)) : cls rows = chain rows k := by
  have := mass_low ok k hk
  have e : rows.length * rows.length = k + (rows.length * rows.length - k) := by omega
  unfold cls
  rw [e]
  exact chain_rest h _
theorem rests (ok : TOk rows) : ∃ k ≤ rows.length * rows.length, (∀ j < k, ¬ chain rows j = chain rows (j + 1)) ∧ chain rows k = chain rows (k + 1) := by
  have go : ∀ m k, m + k = rows.length * rows.length → (∀ j < k, ¬ chain rows j = chain rows (j + 1)) → ∃ k ≤ rows.length * rows.length, (∀ j < k, ¬ chain rows j = chain rows (j + 1)) ∧ chain rows k = chain rows (k + 1) := by
    intro m
    induction m with
    | zero =>
      intro k hm hk
      refine ⟨k, by omega, hk, Classical.byContradiction fun ne => ?_⟩
      have h1 := mass_low ok (k + 1) fun j hj => by
        rcases Nat.lt_or_ge j k with h | h
        · exact hk j h
        · have : j = k := by omega
          rw [this]; exact ne
      omega
    | succ m ih =>
      intro k hm hk
      by_cases e : chain rows k = chain rows (k + 1)
      · exact ⟨k, by omega, hk, e⟩
      · refine ih (k + 1) (by omega) fun j hj => ?_
        rcases Nat.lt_or_ge j k with h | h
        · exact hk j h
        · have : j = k := by omega
          rw [this]; exact e
  exact go _ 0 rfl fun j hj => by omega
/-- no calls tell the states apart -/
def Alk (rows : List (Row L)) (i : Nat) (rows' : List (Row L)) (j : Nat) : Prop := ∀ w, out rows i w = out rows' j w
theorem cls_len : (cls rows).length = rows.length := chain_len _
theorem cls_iff (ok : TOk rows) {i j : Nat} (hi : i < rows.length) (hj : j < rows.length) : at_ (cls rows) i = at_ (cls rows) j ↔ Alk rows i rows j := by
  obtain ⟨k, _, hk, hr⟩ := rests ok
  rw [cls_of ok hk hr]
  constructor
  · intro e w
    have := (chain_iff ok (k + w.length) hi hj).mp (by rw [chain_rest hr]; exact e)
    exact this w (by omega)
  · intro h
    exact (chain_iff ok k hi hj).mpr fun w _ => h w
theorem cls_numb : numb (cls rows) = cls rows := chain_numb _
end
end LF

namespace LF
section
variable {L : Type} [DecidableEq L] {rows : List (Row L)}
def renum (f : Nat → Nat) (r : Row L) : Row L := (f r.1, r.2.1, f r.2.2.1, r.2.2.2)
def mstep (cs : List Nat) (acc : List (Row L)) (x : Row L × Nat) : List (Row L) := if at_ cs x.2 = acc.length then acc ++ [renum (at_ cs) x.1] else acc
def merged (rows : List (Row L)) (cs : List Nat) : List (Row L) := rows.zipIdx.foldl (mstep cs) []
theorem take_next {α : Type} {l : List α} {i : Nat} {x : α} (h : l[i]? = some x) : l.take (i + 1) = l.take i ++ [x] := by
  rw [List.take_add_one, h]
  rfl
theorem merged_pre {cs : List Nat} (hc : numb cs = cs) (hl : cs.length = rows.length) : ∀ i ≤ rows.length, ((rows.zipIdx.take i).foldl (mstep cs) []).length = (uniq (cs.take i)).length ∧
    ∀ j < i, ∃ j0 r0, rows[j0]? = some r0 ∧ at_ cs j0 = at_ cs j ∧ ((rows.zipIdx.take i).foldl (mstep cs) [])[at_ cs j]? = some (renum (at_ cs) r0)
  | 0, _ => ⟨rfl, fun j hj => absurd hj (Nat.not_lt_zero _)⟩
  | i + 1, hi => by
    obtain ⟨h1, h2⟩ := merged_pre hc hl i (by omega)
    have hir : i < rows.length := by omega
    have er : rows[i]? = some rows[i] := List.getElem?_eq_getElem hir
    have ec : cs[i]? = some (at_ cs i) := get_of_lt (by rw [hl]; exact hir)
    rw [take_next (zip_get er), List.foldl_append, take_next ec, uniq_snoc]
    show (mstep cs _ _).length = _ ∧ _
    have en : at_ cs i = ix (uniq cs) (at_ cs i) := by
      have := numb_get ec
      rw [hc, ec] at this
      exact Option.some.inj this
    generalize hacc : (rows.zipIdx.take i).foldl (mstep cs) [] = acc at h1 h2
    obtain ⟨t, ht⟩ := uniq_pre (cs.take (i + 1)) (cs.drop (i + 1))
    rw [List.take_append_drop, take_next ec, uniq_snoc] at ht
    by_cases hm : at_ cs i ∈ uniq (cs.take i)
    · have hp : push (uniq (cs.take i)) (at_ cs i) = uniq (cs.take i) := by unfold push; rw [if_pos hm]
      rw [hp] at ht ⊢
      have hlt : at_ cs i < acc.length := by
        rw [en, ht, ix_app hm, h1]
        exact ix_lt hm
      have hms : mstep cs acc (rows[i], i) = acc := by
        unfold mstep
        rw [if_neg (by show ¬ at_ cs i = acc.length; omega)]
      show (mstep cs acc (rows[i], i)).length = _ ∧ ∀ j < i + 1, ∃ j0 r0, rows[j0]? = some r0 ∧ at_ cs j0 = at_ cs j ∧ (mstep cs acc (rows[i], i))[at_ cs j]? = some (renum (at_ cs) r0)
      rw [hms]
      refine ⟨h1, fun j hj => ?_⟩
      rcases Nat.lt_or_ge j i with h | h
      · exact h2 j h
      · have : j = i := by omega
        subst this
        obtain ⟨j1, hj1⟩ := List.getElem?_of_mem (uniq_mem.mp hm)
        have hj1' : j1 < j := by
          have := (List.getElem?_eq_some_iff.mp hj1).1
          rw [List.length_take] at this
          omega
        have e1 : at_ cs j1 = at_ cs j := by
          rw [List.getElem?_take, if_pos hj1'] at hj1
          exact getD_of hj1
        obtain ⟨j0, r0, a, b, c⟩ := h2 j1 hj1'
        exact ⟨j0, r0, a, b.trans e1, by rw [← e1]; exact c⟩
    · have hp : push (uniq (cs.take i)) (at_ cs i) = uniq (cs.take i) ++ [at_ cs i] := by unfold push; rw [if_neg hm]
      rw [hp] at ht ⊢
      have heq : at_ cs i = acc.length := by
        have h3 : uniq cs = uniq (cs.take i) ++ at_ cs i :: t := by rw [ht, List.append_assoc]; rfl
        rw [h1]
        conv => lhs; rw [en, h3]
        exact ix_new hm t
      have hms : mstep cs acc (rows[i], i) = acc ++ [renum (at_ cs) rows[i]] := by
        unfold mstep
        rw [if_pos heq]
      show (mstep cs acc (rows[i], i)).length = _ ∧ ∀ j < i + 1, ∃ j0 r0, rows[j0]? = some r0 ∧ at_ cs j0 = at_ cs j ∧ (mstep cs acc (rows[i], i))[at_ cs j]? = some (renum (at_ cs) r0)
      rw [hms]
      refine ⟨by rw [List.length_append, List.length_append, h1]; rfl, fun j hj => ?_⟩
      rcases Nat.lt_or_ge j i with h | h
      · obtain ⟨j0, r0, a, b, c⟩ := h2 j h
        refine ⟨j0, r0, a, b, ?_⟩
        rw [List.getElem?_append_left (List.getElem?_eq_some_iff.mp c).1]
        exact c
      · have : j = i := by omega
        subst this
        exact ⟨j, rows[j], er, rfl, by rw [heq, List.getElem?_append_right (Nat.le_refl _), Nat.sub_self]; rfl⟩
abbrev mg (rows : List (Row L)) : List (Row L) := merged rows (cls rows)
theorem mg_get {j : Nat} (hj : j < rows.length) : ∃ j0 r0, rows[j0]? = some r0 ∧ at_ (cls rows) j0 = at_ (cls rows) j ∧ (mg rows)[at_ (cls rows) j]? = some (renum (at_ (cls rows)) r0) := by
  obtain ⟨_, h⟩ := merged_pre (rows := rows) (cs := cls rows) cls_numb cls_len rows.length (Nat.le_refl _)
  have e : rows.zipIdx.take rows.length = rows.zipIdx := List.take_of_length_le (by rw [List.length_zipIdx]; exact Nat.le_refl _)
  rw [e] at h
  exact h j hj
theorem mg_len : (mg rows).length = (uniq (cls rows)).length := by
  obtain ⟨h, _⟩ := merged_pre (rows := rows) (cs := cls rows) cls_numb cls_len rows.length (Nat.le_refl _)
  have e : rows.zipIdx.take rows.length = rows.zipIdx := List.take_of_length_le (by rw [List.length_zipIdx]; exact Nat.le_refl _)
  rw [e, List.take_of_length_le (by rw [cls_len]; exact Nat.le_refl _)] at h
  exact h
theorem mg_le : (mg rows).length ≤ rows.length := by
  rw [mg_len, ← cls_len (rows := rows)]
  exact uniq_len _
theorem cls_lt {j : Nat} (hj : j < rows.length) : at_ (cls rows) j < (mg rows).length := by
  obtain ⟨_, _, _, _, h⟩ := mg_get hj
  exact (List.getElem?_eq_some_iff.mp h).1
/-- each state of the merged table is the class of one -/
theorem mg_onto {k : Nat} (hk : k < (mg rows).length) : ∃ j < rows.length, at_ (cls rows) j = k := by
  rw [mg_len] at hk
  have e : (uniq (cls rows))[k]? = some (uniq (cls rows))[k] := List.getElem?_eq_getElem hk
  generalize (uniq (cls rows))[k] = u at e
  obtain ⟨j, hj⟩ := List.getElem?_of_mem (uniq_mem.mp (List.mem_of_getElem? e))
  refine ⟨j, by rw [← cls_len (rows := rows)]; exact (List.getElem?_eq_some_iff.mp hj).1, ?_⟩
  have h1 := numb_get hj
  rw [cls_numb, ix_get uniq_nodup e] at h1
  exact getD_of h1
theorem mg_ok (ok : TOk rows) : TOk (mg rows) := by
  intro r hr
  obtain ⟨k, hk⟩ := List.getElem?_of_mem hr
  obtain ⟨j, hj, e⟩ := mg_onto (List.getElem?_eq_some_iff.mp hk).1
  obtain ⟨j0, r0, h1, h2, h3⟩ := mg_get hj
  rw [e, hk] at h3
  have : r = renum (at_ (cls rows)) r0 := Option.some.inj h3
  rw [this]
  have o := ok r0 (List.mem_of_getElem? h1)
  exact ⟨cls_lt o.1, cls_lt o.2⟩
theorem alk_step (ok : TOk rows) {i j : Nat} {r r' : Row L} (hi : rows[i]? = some r) (hj : rows[j]? = some r') (h : Alk rows i rows j) : key1 r = key1 r' ∧ Alk rows r.1 rows r'.1 ∧ Alk rows r.2.2.1 rows r'.2.2.1 := by
  have h1 := (eqv_step (k := 0) hi hj).mp fun w _ => h w
  refine ⟨h1.1, fun w => ?_, fun w => ?_⟩
  · exact ((eqv_step (k := w.length) hi hj).mp fun w _ => h w).2.1 w (Nat.le_refl _)
  · exact ((eqv_step (k := w.length) hi hj).mp fun w _ => h w).2.2 w (Nat.le_refl _)
theorem mg_out (ok : TOk rows) : ∀ (w : List Bool) {j : Nat}, j < rows.length → out (mg rows) (at_ (cls rows) j) w = out rows j w
  | [], j, _ => by simp [out]
  | b :: w, j, hj => by
    obtain ⟨j0, r0, h1, h2, h3⟩ := mg_get hj
    have ej : rows[j]? = some rows[j] := List.getElem?_eq_getElem hj
    have hj0 : j0 < rows.length := (List.getElem?_eq_some_iff.mp h1).1
    have al := (cls_iff ok hj0 hj).mp h2
    obtain ⟨k1, k2, k3⟩ := alk_step ok h1 ej al
    have e0 : r0.2.1 = rows[j].2.1 := (Prod.mk.inj k1).1
    have e1 : r0.2.2.2 = rows[j].2.2.2 := (Prod.mk.inj k1).2
    have o0 := ok r0 (List.mem_of_getElem? h1)
    rw [out_cons h3, out_cons ej]
    cases b
    · show some r0.2.1 :: out (mg rows) (at_ (cls rows) r0.1) w = some rows[j].2.1 :: out rows rows[j].1 w
      rw [e0, mg_out ok w o0.1, k2 w]
    · show some r0.2.2.2 :: out (mg rows) (at_ (cls rows) r0.2.2.1) w = some rows[j].2.2.2 :: out rows rows[j].2.2.1 w
      rw [e1, mg_out ok w o0.2, k3 w]
/-- no two states are alike -/
def Apart (rows : List (Row L)) : Prop := ∀ i j, i < rows.length → j < rows.length → Alk rows i rows j → i = j
theorem mg_apart (ok : TOk rows) : Apart (mg rows) := by
  intro i j hi hj h
  obtain ⟨i', hi', rfl⟩ := mg_onto hi
  obtain ⟨j', hj', rfl⟩ := mg_onto hj
  refine (cls_iff ok hi' hj').mpr fun w => ?_
  have := h w
  rw [mg_out ok w hi', mg_out ok w hj'] at this
  exact this
end
end LF

namespace LF
/-- two lists, place by place -/
inductive F2 {α β : Type} (R : α → β → Prop) : List α → List β → Prop
  | nil : F2 R [] []
  | cons {a : α} {b : β} {l : List α} {m : List β} : R a b → F2 R l m → F2 R (a :: l) (b :: m)
section
variable {α β : Type} {R : α → β → Prop}
theorem F2.append : ∀ {l l' : List α} {m m' : List β}, F2 R l m → F2 R l' m' → F2 R (l ++ l') (m ++ m')
  | _, _, _, _, .nil, h => h
  | _, _, _, _, .cons r t, h => .cons r (t.append h)
theorem F2.len : ∀ {l : List α} {m : List β}, F2 R l m → l.length = m.length
  | _, _, .nil => rfl
  | _, _, .cons _ t => by rw [List.length_cons, List.length_cons, t.len]
theorem F2.get : ∀ {l : List α} {m : List β} {i : Nat} {a : α} {b : β}, F2 R l m → l[i]? = some a → m[i]? = some b → R a b
  | _, _, _, _, _, .nil, h, _ => by simp at h
  | _, _, 0, _, _, .cons r _, h1, h2 => by
    simp at h1 h2
    subst h1 h2
    exact r
  | _, _, i + 1, _, _, .cons _ t, h1, h2 => t.get (i := i) (by simpa using h1) (by simpa using h2)
theorem F2.left : ∀ {l : List α} {m : List β} {a : α}, F2 R l m → a ∈ l → ∃ b ∈ m, R a b
  | _, _, _, .nil, h => by cases h
  | _, _, _, .cons (b := b) r t, h => by
    rcases List.mem_cons.mp h with rfl | h
    · exact ⟨b, List.mem_cons_self, r⟩
    · obtain ⟨c, hc, q⟩ := t.left h
      exact ⟨c, List.mem_cons_of_mem _ hc, q⟩
theorem F2.right : ∀ {l : List α} {m : List β} {b : β}, F2 R l m → b ∈ m → ∃ a ∈ l, R a b
  | _, _, _, .nil, h => by cases h
  | _, _, _, .cons (a := a) r t, h => by
    rcases List.mem_cons.mp h with rfl | h
    · exact ⟨a, List.mem_cons_self, r⟩
    · obtain ⟨c, hc, q⟩ := t.right h
      exact ⟨c, List.mem_cons_of_mem _ hc, q⟩
theorem F2.of {l : List α} {m : List β} (hl : l.length = m.length) (h : ∀ (i : Nat) (a : α) (b : β), l[i]? = some a → m[i]? = some b → R a b) : F2 R l m := by
  induction l generalizing m with
  | nil =>
    cases m with
    | nil => exact .nil
    | cons _ _ => cases hl
  | cons a l ih =>
    cases m with
    | nil => cases hl
    | cons b m => exact .cons (h 0 a b rfl rfl) (ih (by simpa using hl) fun i x y h1 h2 => h (i + 1) x y (by simpa using h1) (by simpa using h2))
end
/-- different numbers below n are at most n -/
theorem few : ∀ (n : Nat) {l : List Nat}, l.Nodup → (∀ x ∈ l, x < n) → l.length ≤ n
  | 0, l, _, h => by
    cases l with
    | nil => exact Nat.le_refl _
    | cons a l => exact absurd (h a List.mem_cons_self) (Nat.not_lt_zero _)
  | n + 1, l, hn, h => by
    have h1 := few n (l := l.erase n) (hn.erase n) fun x hx => by
      have hm := List.mem_of_mem_erase hx
      have hlt := h x hm
      have ne : x ≠ n := fun e => by
        rw [e] at hx
        exact (List.Nodup.not_mem_erase hn) hx
      omega
    by_cases hm : n ∈ l
    · rw [List.length_erase_of_mem hm] at h1
      omega
    · rw [List.erase_of_not_mem hm] at h1
      omega
section
variable {L : Type} [DecidableEq L] {rows : List (Row L)}
/-- the visit: what waits, what has been visited -/
def visit (rows : List (Row L)) : Nat → List Nat → List Nat → List Nat
  | 0, _, s => s
  | _ + 1, [], s => s
  | f + 1, x :: w, s => if x ∈ s then visit rows f w s else match rows[x]? with
    | none => s
    | some r => visit rows f (w ++ [r.1, r.2.2.1]) (s ++ [x])
structure VOk (rows : List (Row L)) (w s : List Nat) : Prop where
  ok : TOk rows
  hw : ∀ x ∈ w, x < rows.length
  hs : ∀ x ∈ s, x < rows.length
  nd : s.Nodup
theorem visit_old {f x : Nat} {w s : List Nat} (h : x ∈ s) : visit rows (f + 1) (x :: w) s = visit rows f w s := by
  show (if x ∈ s then _ else _) = _
  rw [if_pos h]
theorem visit_new {f x : Nat} {w s : List Nat} {r : Row L} (h : ¬ x ∈ s) (hr : rows[x]? = some r) : visit rows (f + 1) (x :: w) s = visit rows f (w ++ [r.1, r.2.2.1]) (s ++ [x]) := by
  show (if x ∈ s then _ else match rows[x]? with | none => s | some r => visit rows f (w ++ [r.1, r.2.2.1]) (s ++ [x])) = _
  rw [if_neg h, hr]
def need (rows : List (Row L)) (w s : List Nat) : Nat := w.length + 2 * (rows.length - s.length)
theorem VOk.old {x : Nat} {w s : List Nat} (v : VOk rows (x :: w) s) : VOk rows w s := ⟨v.ok, fun y hy => v.hw y (List.mem_cons_of_mem _ hy), v.hs, v.nd⟩
theorem VOk.new {x : Nat} {w s : List Nat} {r : Row L} (v : VOk rows (x :: w) s) (h : ¬ x ∈ s) (hr : rows[x]? = some r) : VOk rows (w ++ [r.1, r.2.2.1]) (s ++ [x]) := by
  have o := v.ok r (List.mem_of_getElem? hr)
  refine ⟨v.ok, fun y hy => ?_, fun y hy => ?_, nodup_snoc v.nd h⟩
  · rcases List.mem_append.mp hy with hy | hy
    · exact v.hw y (List.mem_cons_of_mem _ hy)
    · simp at hy
      rcases hy with rfl | rfl
      · exact o.1
      · exact o.2
  · rcases List.mem_append.mp hy with hy | hy
    · exact v.hs y hy
    · rw [List.mem_singleton.mp hy]
      exact v.hw x List.mem_cons_self
theorem VOk.room {x : Nat} {w s : List Nat} (v : VOk rows (x :: w) s) (h : ¬ x ∈ s) : s.length < rows.length := by
  have := few rows.length (nodup_snoc v.nd h) fun y hy => by
    rcases List.mem_append.mp hy with hy | hy
    · exact v.hs y hy
    · rw [List.mem_singleton.mp hy]
      exact v.hw x List.mem_cons_self
  rw [List.length_append] at this
  exact this
theorem need_new {x : Nat} {w s : List Nat} {r : Row L} (v : VOk rows (x :: w) s) (h : ¬ x ∈ s) : need rows (w ++ [r.1, r.2.2.1]) (s ++ [x]) + 1 = need rows (x :: w) s := by
  have := v.room h
  unfold need
  simp
  omega
/-- more fuel changes nothing -/
theorem visit_more : ∀ (f : Nat) {w s : List Nat}, VOk rows w s → need rows w s ≤ f → visit rows (f + 1) w s = visit rows f w s
  | 0, w, s, v, h => by
    have : w = [] := List.length_eq_zero_iff.mp (by unfold need at h; omega)
    subst this
    rfl
  | f + 1, [], s, v, h => rfl
  | f + 1, x :: w, s, v, h => by
    by_cases hx : x ∈ s
    · rw [visit_old hx, visit_old hx]
      refine visit_more f v.old ?_
      unfold need at h ⊢
      rw [List.length_cons] at h
      omega
    · have hlt := v.hw x List.mem_cons_self
      have hr : rows[x]? = some rows[x] := List.getElem?_eq_getElem hlt
      rw [visit_new hx hr, visit_new hx hr]
      refine visit_more f (v.new hx hr) ?_
      have := need_new (r := rows[x]) v hx
      omega
theorem visit_fuel {f : Nat} {w s : List Nat} (v : VOk rows w s) (h : need rows w s ≤ f) : ∀ k, visit rows (f + k) w s = visit rows f w s
  | 0 => rfl
  | k + 1 => by
    rw [← Nat.add_assoc, visit_more (f + k) v (by omega)]
    exact visit_fuel v h k
/-- what a visit comes to -/
structure VEnd (rows : List (Row L)) (w s o : List Nat) : Prop where
  pre : ∃ t, o = s ++ t
  nd : o.Nodup
  lt : ∀ x ∈ o, x < rows.length
  all : ∀ x ∈ w, x ∈ o
  closed : (∀ x ∈ s, ∀ r, rows[x]? = some r → (r.1 ∈ s ∨ r.1 ∈ w) ∧ (r.2.2.1 ∈ s ∨ r.2.2.1 ∈ w)) → ∀ x ∈ o, ∀ r, rows[x]? = some r → r.1 ∈ o ∧ r.2.2.1 ∈ o
theorem visit_end : ∀ (f : Nat) {w s : List Nat}, VOk rows w s → need rows w s ≤ f → VEnd rows w s (visit rows f w s)
  | 0, w, s, v, h => by
    have : w = [] := List.length_eq_zero_iff.mp (by unfold need at h; omega)
    subst this
    refine ⟨⟨[], by simp [visit]⟩, v.nd, v.hs, fun x hx => (by cases hx), fun c x hx r hr => ?_⟩
    have := c x hx r hr
    exact ⟨this.1.elim id fun z => (by cases z), this.2.elim id fun z => (by cases z)⟩
  | f + 1, [], s, v, h => by
    refine ⟨⟨[], by simp [visit]⟩, v.nd, v.hs, fun x hx => (by cases hx), fun c x hx r hr => ?_⟩
    have := c x hx r hr
    exact ⟨this.1.elim id fun z => (by cases z), this.2.elim id fun z => (by cases z)⟩
  | f + 1, x :: w, s, v, h => by
    by_cases hx : x ∈ s
    · rw [visit_old hx]
      have e := visit_end f v.old (by unfold need at h ⊢; rw [List.length_cons] at h; omega)
      obtain ⟨t, ht⟩ := e.pre
      refine ⟨e.pre, e.nd, e.lt, fun y hy => ?_, fun c => e.closed fun y hy r hr => ?_⟩
      · rcases List.mem_cons.mp hy with rfl | hy
        · rw [ht]; exact List.mem_append_left _ hx
        · exact e.all y hy
      · have c1 := c y hy r hr
        refine ⟨c1.1.elim .inl fun z => ?_, c1.2.elim .inl fun z => ?_⟩
        · exact (List.mem_cons.mp z).elim (fun e => .inl (e ▸ hx)) .inr
        · exact (List.mem_cons.mp z).elim (fun e => .inl (e ▸ hx)) .inr
    · have hlt := v.hw x List.mem_cons_self
      have hr : rows[x]? = some rows[x] := List.getElem?_eq_getElem hlt
      rw [visit_new hx hr]
      have e := visit_end f (v.new hx hr) (by have := need_new (r := rows[x]) v hx; omega)
      obtain ⟨t, ht⟩ := e.pre
      refine ⟨⟨[x] ++ t, by rw [ht, List.append_assoc]⟩, e.nd, e.lt, fun y hy => ?_, fun c => e.closed fun y hy r hr' => ?_⟩
      · rcases List.mem_cons.mp hy with rfl | hy
        · rw [ht]; exact List.mem_append_left _ (List.mem_append_right _ (List.mem_singleton.mpr rfl))
        · exact e.all y (List.mem_append_left _ hy)
      · rcases List.mem_append.mp hy with hy | hy
        · have c1 := c y hy r hr'
          have go : ∀ z, z ∈ s ∨ z ∈ x :: w → z ∈ s ++ [x] ∨ z ∈ w ++ [rows[x].1, rows[x].2.2.1] := fun z hz => by
            rcases hz with hz | hz
            · exact .inl (List.mem_append_left _ hz)
            · rcases List.mem_cons.mp hz with rfl | hz
              · exact .inl (List.mem_append_right _ (List.mem_singleton.mpr rfl))
              · exact .inr (List.mem_append_left _ hz)
          exact ⟨go _ c1.1, go _ c1.2⟩
        · have : y = x := List.mem_singleton.mp hy
          subst this
          rw [hr] at hr'
          cases hr'
          exact ⟨.inr (List.mem_append_right _ (by simp)), .inr (List.mem_append_right _ (by simp))⟩
end
end LF

namespace LF
section
variable {L : Type} [DecidableEq L] {A B : List (Row L)}
/-- states of two tables that go alike -/
def RR (A B : List (Row L)) (a b : Nat) : Prop := a < A.length ∧ b < B.length ∧ Alk A a B b
theorem rr_step (oA : TOk A) (oB : TOk B) {a b : Nat} {r r' : Row L} (h : RR A B a b) (hr : A[a]? = some r) (hr' : B[b]? = some r') : key1 r = key1 r' ∧ RR A B r.1 r'.1 ∧ RR A B r.2.2.1 r'.2.2.1 := by
  obtain ⟨ha, hb, al⟩ := h
  have pa := oA r (List.mem_of_getElem? hr)
  have pb := oB r' (List.mem_of_getElem? hr')
  have c0 : ∀ w, r.2.1 = r'.2.1 ∧ out A r.1 w = out B r'.1 w := fun w => by
    have := al (false :: w)
    rw [out_cons hr, out_cons hr'] at this
    have h1 := (List.cons.inj this).1
    have h2 := (List.cons.inj this).2
    exact ⟨by simpa using h1, by simpa using h2⟩
  have c1 : ∀ w, r.2.2.2 = r'.2.2.2 ∧ out A r.2.2.1 w = out B r'.2.2.1 w := fun w => by
    have := al (true :: w)
    rw [out_cons hr, out_cons hr'] at this
    have h1 := (List.cons.inj this).1
    have h2 := (List.cons.inj this).2
    exact ⟨by simpa using h1, by simpa using h2⟩
  exact ⟨by unfold key1; rw [(c0 []).1, (c1 []).1], ⟨pa.1, pb.1, fun w => (c0 w).2⟩, pa.2, pb.2, fun w => (c1 w).2⟩
theorem rr_l (sA : Apart A) {a a' b : Nat} (h : RR A B a b) (h' : RR A B a' b) : a = a' := sA a a' h.1 h'.1 fun w => (h.2.2 w).trans (h'.2.2 w).symm
theorem rr_r (sB : Apart B) {a b b' : Nat} (h : RR A B a b) (h' : RR A B a b') : b = b' := sB b b' h.2.1 h'.2.1 fun w => (h.2.2 w).symm.trans (h'.2.2 w)
theorem rr_mem (sA : Apart A) (sB : Apart B) {a b : Nat} {s s' : List Nat} (h : RR A B a b) (hs : F2 (RR A B) s s') : a ∈ s ↔ b ∈ s' := by
  constructor
  · intro m
    obtain ⟨c, hc, q⟩ := hs.left m
    rw [rr_r sB h q]
    exact hc
  · intro m
    obtain ⟨c, hc, q⟩ := hs.right m
    rw [rr_l sA h q]
    exact hc
theorem visit_sim (oA : TOk A) (oB : TOk B) (sA : Apart A) (sB : Apart B) : ∀ (f : Nat) {w w' s s' : List Nat}, F2 (RR A B) w w' → F2 (RR A B) s s' → F2 (RR A B) (visit A f w s) (visit B f w' s')
  | 0, _, _, _, _, _, hs => hs
  | f + 1, _, _, _, _, .nil, hs => hs
  | f + 1, x :: w, y :: w', s, s', .cons h hw, hs => by
    have e := rr_mem sA sB h hs
    by_cases hx : x ∈ s
    · rw [visit_old hx, visit_old (e.mp hx)]
      exact visit_sim oA oB sA sB f hw hs
    · have hr : A[x]? = some (A[x]'h.1) := List.getElem?_eq_getElem h.1
      have hr' : B[y]? = some (B[y]'h.2.1) := List.getElem?_eq_getElem h.2.1
      rw [visit_new hx hr, visit_new (fun z => hx (e.mpr z)) hr']
      obtain ⟨_, h1, h2⟩ := rr_step oA oB h hr hr'
      exact visit_sim oA oB sA sB f (hw.append (.cons h1 (.cons h2 .nil))) (hs.append (.cons h .nil))
theorem ix_sim (sA : Apart A) (sB : Apart B) {o o' : List Nat} (nd : o.Nodup) (nd' : o'.Nodup) (h : F2 (RR A B) o o') {a b : Nat} (r : RR A B a b) (hm : a ∈ o) : ix o a = ix o' b := by
  have hm' := (rr_mem sA sB r h).mp hm
  have g := get_ix hm
  have hl := ix_lt hm
  have g' : o'[ix o a]? = some (o'[ix o a]'(by rw [← h.len]; exact hl)) := List.getElem?_eq_getElem _
  have q := h.get g g'
  have e := rr_r sB r q
  rw [← e] at g'
  exact (ix_get nd' g').symm
/-- the visit of the merged table from these states -/
def ord (m : List (Row L)) (b : List Nat) : List Nat := visit m (b.length + 2 * m.length) b []
def laid (m : List (Row L)) (o : List Nat) : List (Row L) := o.filterMap fun s => m[s]?.map (renum (ix o))
/-- the least form -/
def lf (rows : List (Row L)) (starts : List Nat) : List (Row L) × List Nat :=
  (laid (mg rows) (ord (mg rows) (starts.map (at_ (cls rows)))), (starts.map (at_ (cls rows))).map (ix (ord (mg rows) (starts.map (at_ (cls rows))))))
theorem ord_end {m : List (Row L)} {b : List Nat} (ok : TOk m) (hb : ∀ x ∈ b, x < m.length) : VEnd m b [] (ord m b) :=
  visit_end _ ⟨ok, hb, (fun x hx => by cases hx), List.nodup_nil⟩ (by unfold need; simp)
theorem ord_sim (oA : TOk A) (oB : TOk B) (sA : Apart A) (sB : Apart B) {b b' : List Nat} (h : F2 (RR A B) b b') : F2 (RR A B) (ord A b) (ord B b') := by
  have hA : ∀ x ∈ b, x < A.length := fun x hx => let ⟨_, _, q⟩ := h.left hx; q.1
  have hB : ∀ x ∈ b', x < B.length := fun x hx => let ⟨_, _, q⟩ := h.right hx; q.2.1
  have e1 := visit_fuel (f := b.length + 2 * A.length) (w := b) (s := []) ⟨oA, hA, (fun x hx => by cases hx), List.nodup_nil⟩ (by unfold need; simp) (2 * B.length)
  have e2 := visit_fuel (f := b'.length + 2 * B.length) (w := b') (s := []) ⟨oB, hB, (fun x hx => by cases hx), List.nodup_nil⟩ (by unfold need; simp) (2 * A.length)
  unfold ord
  rw [← e1, ← e2, h.len, show b'.length + 2 * B.length + 2 * A.length = b'.length + 2 * A.length + 2 * B.length by omega]
  exact visit_sim oA oB sA sB _ h .nil
theorem laid_get {m : List (Row L)} (f : Nat → Nat) : ∀ {o : List Nat}, (∀ x ∈ o, x < m.length) → ∀ i : Nat, (o.filterMap fun s => m[s]?.map (renum f))[i]? = o[i]?.bind fun s => m[s]?.map (renum f)
  | [], _, i => by simp
  | a :: o, h, i => by
    have ha := h a List.mem_cons_self
    have e : m[a]? = some m[a] := List.getElem?_eq_getElem ha
    rw [List.filterMap_cons]
    simp only [e, Option.map_some]
    cases i with
    | zero => simp [e]
    | succ i =>
      rw [List.getElem?_cons_succ, List.getElem?_cons_succ]
      exact laid_get f (fun x hx => h x (List.mem_cons_of_mem _ hx)) i
theorem laid_len {m : List (Row L)} (f : Nat → Nat) : ∀ {o : List Nat}, (∀ x ∈ o, x < m.length) → (o.filterMap fun s => m[s]?.map (renum f)).length = o.length
  | [], _ => rfl
  | a :: o, h => by
    have ha := h a List.mem_cons_self
    have e : m[a]? = some m[a] := List.getElem?_eq_getElem ha
    rw [List.filterMap_cons]
    simp only [e, Option.map_some, List.length_cons]
    rw [laid_len f fun x hx => h x (List.mem_cons_of_mem _ hx)]
theorem b_lt {rows : List (Row L)} {starts : List Nat} (hs : ∀ s ∈ starts, s < rows.length) : ∀ x ∈ starts.map (at_ (cls rows)), x < (mg rows).length := by
  intro x hx
  obtain ⟨s, h, rfl⟩ := List.mem_map.mp hx
  exact cls_lt (hs s h)
/-- two tables that go alike from their starts have the same least form -/
theorem lf_canon {starts starts' : List Nat} (oA : TOk A) (oB : TOk B) (hA : ∀ s ∈ starts, s < A.length) (hB : ∀ s ∈ starts', s < B.length) (h : F2 (fun a b => Alk A a B b) starts starts') : lf A starts = lf B starts' := by
  have hb : F2 (RR (mg A) (mg B)) (starts.map (at_ (cls A))) (starts'.map (at_ (cls B))) := by
    refine F2.of (by rw [List.length_map, List.length_map, h.len]) fun i a b h1 h2 => ?_
    rw [List.getElem?_map, Option.map_eq_some_iff] at h1 h2
    obtain ⟨s, hs, rfl⟩ := h1
    obtain ⟨s', hs', rfl⟩ := h2
    have q := h.get hs hs'
    have ls := hA s (List.mem_of_getElem? hs)
    have ls' := hB s' (List.mem_of_getElem? hs')
    exact ⟨cls_lt ls, cls_lt ls', fun w => by rw [mg_out oA w ls, mg_out oB w ls']; exact q w⟩
  have mA := mg_ok oA
  have mB := mg_ok oB
  have pA := mg_apart oA
  have pB := mg_apart oB
  have eA := ord_end mA (b_lt hA)
  have eB := ord_end mB (b_lt hB)
  have ho := ord_sim mA mB pA pB hb
  have cA := eA.closed fun x hx => by cases hx
  have cB := eB.closed fun x hx => by cases hx
  unfold lf
  generalize starts.map (at_ (cls A)) = bA at hb eA ho cA
  generalize starts'.map (at_ (cls B)) = bB at hb eB ho cB
  have e1 : laid (mg A) (ord (mg A) bA) = laid (mg B) (ord (mg B) bB) := by
    refine List.ext_getElem? fun i => ?_
    unfold laid
    rw [laid_get _ eA.lt, laid_get _ eB.lt]
    cases hi : (ord (mg A) bA)[i]? with
    | none =>
      have : (ord (mg B) bB)[i]? = none := by
        rw [List.getElem?_eq_none_iff] at hi ⊢
        rw [← ho.len]; exact hi
      rw [this]
      rfl
    | some a =>
      have hl : i < (ord (mg B) bB).length := by rw [← ho.len]; exact (List.getElem?_eq_some_iff.mp hi).1
      have hi' := List.getElem?_eq_getElem hl
      have r := ho.get hi hi'
      rw [hi']
      have ma := List.mem_of_getElem? hi
      have mb := List.mem_of_getElem? hi'
      generalize (ord (mg B) bB)[i] = b at hi' r mb
      have ra : (mg A)[a]? = some ((mg A)[a]'r.1) := List.getElem?_eq_getElem r.1
      have rb : (mg B)[b]? = some ((mg B)[b]'r.2.1) := List.getElem?_eq_getElem r.2.1
      obtain ⟨k, q1, q2⟩ := rr_step mA mB r ra rb
      have ca := cA a ma _ ra
      simp only [Option.bind_some, ra, rb, Option.map_some]
      unfold renum
      rw [ix_sim pA pB eA.nd eB.nd ho q1 ca.1, ix_sim pA pB eA.nd eB.nd ho q2 ca.2, (Prod.mk.inj k).1, (Prod.mk.inj k).2]
  have e2 : bA.map (ix (ord (mg A) bA)) = bB.map (ix (ord (mg B) bB)) := by
    refine List.ext_getElem? fun i => ?_
    rw [List.getElem?_map, List.getElem?_map]
    cases hi : bA[i]? with
    | none =>
      have : bB[i]? = none := by
        rw [List.getElem?_eq_none_iff] at hi ⊢
        rw [← hb.len]; exact hi
      rw [this]
      rfl
    | some a =>
      have hl : i < bB.length := by rw [← hb.len]; exact (List.getElem?_eq_some_iff.mp hi).1
      have hi' := List.getElem?_eq_getElem hl
      have r := hb.get hi hi'
      rw [hi']
      show some _ = some _
      rw [ix_sim pA pB eA.nd eB.nd ho r (eA.all a (List.mem_of_getElem? hi))]
  rw [e1, e2]
variable {rows : List (Row L)} {starts : List Nat}
theorem laid_ok (ok : TOk rows) (hs : ∀ s ∈ starts, s < rows.length) : TOk (lf rows starts).1 := by
  have mA := mg_ok ok
  have eA := ord_end mA (b_lt hs)
  have cA := eA.closed fun x hx => by cases hx
  show TOk (laid _ _)
  generalize starts.map (at_ (cls rows)) = bA at eA cA
  have hl : (laid (mg rows) (ord (mg rows) bA)).length = (ord (mg rows) bA).length := laid_len _ eA.lt
  intro r hr
  rw [hl]
  obtain ⟨i, hi⟩ := List.getElem?_of_mem hr
  unfold laid at hi
  rw [laid_get _ eA.lt] at hi
  cases ho : (ord (mg rows) bA)[i]? with
  | none => rw [ho] at hi; cases hi
  | some a =>
    have ma := List.mem_of_getElem? ho
    have ra : (mg rows)[a]? = some ((mg rows)[a]'(eA.lt a ma)) := List.getElem?_eq_getElem _
    rw [ho] at hi
    simp only [Option.bind_some, ra, Option.map_some] at hi
    have : r = renum (ix (ord (mg rows) bA)) ((mg rows)[a]'(eA.lt a ma)) := (Option.some.inj hi).symm
    rw [this]
    have c := cA a ma _ ra
    exact ⟨ix_lt c.1, ix_lt c.2⟩
theorem lf_st (ok : TOk rows) (hs : ∀ s ∈ starts, s < rows.length) : ∀ s ∈ (lf rows starts).2, s < (lf rows starts).1.length := by
  have mA := mg_ok ok
  have eA := ord_end mA (b_lt hs)
  intro s h
  obtain ⟨x, hx, rfl⟩ := List.mem_map.mp h
  show ix _ x < (laid _ _).length
  unfold laid
  rw [laid_len _ eA.lt]
  exact ix_lt (eA.all x hx)
theorem lf_len : (lf rows starts).2.length = starts.length := by
  show (List.map _ (List.map _ starts)).length = _
  rw [List.length_map, List.length_map]
theorem lf_le (ok : TOk rows) (hs : ∀ s ∈ starts, s < rows.length) : (lf rows starts).1.length ≤ rows.length := by
  have eA := ord_end (mg_ok ok) (b_lt hs)
  show (laid _ _).length ≤ _
  unfold laid
  rw [laid_len _ eA.lt]
  exact Nat.le_trans (few _ eA.nd eA.lt) mg_le
theorem laid_out {m : List (Row L)} {b : List Nat} (mA : TOk m) (hb : ∀ x ∈ b, x < m.length) : ∀ (w : List Bool) {x : Nat}, x ∈ ord m b → out (laid m (ord m b)) (ix (ord m b) x) w = out m x w
  | [], x, _ => by simp [out]
  | c :: w, x, hx => by
    have eA := ord_end mA hb
    have cA := eA.closed fun x hx => by cases hx
    have rx : m[x]? = some (m[x]'(eA.lt x hx)) := List.getElem?_eq_getElem _
    have cx := cA x hx _ rx
    have lx : (laid m (ord m b))[ix (ord m b) x]? = some (renum (ix (ord m b)) (m[x]'(eA.lt x hx))) := by
      unfold laid
      rw [laid_get _ eA.lt, get_ix hx]
      simp only [Option.bind_some, rx, Option.map_some]
    rw [out_cons lx, out_cons rx]
    cases c
    · simp only [Bool.false_eq_true, if_false]
      show some _ :: out _ (ix _ _) w = _
      rw [laid_out mA hb w cx.1]
      rfl
    · simp only [if_true]
      show some _ :: out _ (ix _ _) w = _
      rw [laid_out mA hb w cx.2]
      rfl
/-- the least form goes as the table -/
theorem lf_alk (ok : TOk rows) (hs : ∀ s ∈ starts, s < rows.length) : F2 (fun a b => Alk (lf rows starts).1 a rows b) (lf rows starts).2 starts := by
  have mA := mg_ok ok
  have eA := ord_end mA (b_lt hs)
  refine F2.of lf_len fun i a b h1 h2 w => ?_
  have hb := hs b (List.mem_of_getElem? h2)
  have h1' : (lf rows starts).2[i]? = some (ix (ord (mg rows) (starts.map (at_ (cls rows)))) (at_ (cls rows) b)) := by
    show (List.map _ (List.map _ starts))[i]? = _
    rw [List.getElem?_map, List.getElem?_map, h2]
    rfl
  rw [h1] at h1'
  rw [Option.some.inj h1']
  show out (laid _ _) _ w = _
  rw [laid_out mA (b_lt hs) w (eA.all _ (List.mem_map_of_mem (List.mem_of_getElem? h2))), mg_out ok w hb]
/-- alike exactly if the least forms are the same -/
theorem lf_iff {starts' : List Nat} (oA : TOk A) (oB : TOk B) (hA : ∀ s ∈ starts, s < A.length) (hB : ∀ s ∈ starts', s < B.length) : lf A starts = lf B starts' ↔ F2 (fun a b => Alk A a B b) starts starts' := by
  refine ⟨fun e => ?_, lf_canon oA oB hA hB⟩
  have h1 := lf_alk oA hA
  have h2 := lf_alk oB hB
  rw [← e] at h2
  refine F2.of (h1.len.symm.trans h2.len) fun i a b ha hb w => ?_
  have hl : i < (lf A starts).2.length := by rw [lf_len]; exact (List.getElem?_eq_some_iff.mp ha).1
  have hx := List.getElem?_eq_getElem hl
  exact (h1.get hx ha w).symm.trans (h2.get hx hb w)
/-- the least form of a least form is that form -/
theorem lf_lf (ok : TOk rows) (hs : ∀ s ∈ starts, s < rows.length) : lf (lf rows starts).1 (lf rows starts).2 = lf rows starts :=
  lf_canon (laid_ok ok hs) ok (lf_st ok hs) hs (lf_alk ok hs)
end
end LF

set_option maxHeartbeats 4000000
namespace L2
open PySem PySem.Spec PyProof.Rows RZ
section
variable {X : Cx}
theorem call_len_dx : CallR X (.builtin "len") (fun xs H Q => ∃ d kvs, xs = [.ref d] ∧ H d = some (DX X.prog X.w d kvs) ∧ (∀ p ∈ kvs, KeyAt H p.2.1 p.1) ∧ Q (.int (kvs.length : Int)) H) := by
  intro pins s σ H xs us Q I r h
  obtain ⟨d, kvs, rfl, e, ka, q⟩ := h
  obtain ⟨u, rfl, ru⟩ := vals1 r
  cases ru
  obtain ⟨z, hd, xs, rel, dd⟩ := dx_of I.hok e ka
  have hl := Paired.length rel
  have hb : sizeLine < 2 ^ 63 := by decide
  refine PySem.call_len_dictH hd dd (by omega) ?_
  rw [← hl]
  exact ⟨.int _, H, I.tok _, ⟨_, rfl⟩, q⟩
end
end L2

set_option maxHeartbeats 4000000
namespace L2
open PySem PySem.Spec PyProof.Rows RZ
theorem newClass_enum (v : Value) : Builtin.SmallTypes.newClass "enumerate" { pos := [.type "enumerate", v] } = pure (.type "enumerate", [v]) := by
  unfold Builtin.SmallTypes.newClass
  show (isType (.type "enumerate") >>= _) = _
  simp [isType, sub_enumerate]
theorem meets_enum1 {v : Value} {o : Obj} {H : Heap → Prop} (b : Begins v o H) :
    Meets (Builtin.«enumerate.__new__» { pos := [.type "enumerate", v] }) fun A R s => H s.heap ∧ R (.ok (.ret (.ref (s.heap.push o).objs.size)))
      { heap := (s.heap.push o).push { cls := .type "enumerate", data := .fields #[.none, .bool false, .ref s.heap.objs.size, rawInt 0, .none, .none] }, gens := s.gens, drawn := s.drawn, toks := s.toks, os := s.os } := by
  refine Meets.of_wp ?_
  intro prog w A R s h
  unfold Builtin.«enumerate.__new__»
  rw [newClass_enum]
  refine wpAny_bind (wpAny_pure ?_)
  have fin : ∀ (Q : Fin → Shared → Prop) (E : Value → Shared → Prop), (Q (.done (.ret (.ref (s.heap.push o).objs.size))) { heap := (s.heap.push o).push { cls := .type "enumerate", data := .fields #[.none, .bool false, .ref s.heap.objs.size, rawInt 0, .none, .none] }, gens := s.gens, drawn := s.drawn, toks := s.toks, os := s.os }) →
      wpAny (model prog w) A.in1 (do
        let it ← pyIter v
        let r ← Builtin.SmallTypes.newRecord (.type "enumerate") (Builtin.SmallTypes.ownedTupleFields ++ [it, rawInt 0, .none, .none])
        ret r) Q E s := by
    intro Q E q
    refine wpAny_bind (b.iter _ _ _ _ _ _ h.1 ?_)
    refine wpAny_bind ?_
    unfold Builtin.SmallTypes.newRecord
    show wpAny _ _ (newObj (.type "enumerate") (.fields #[.none, .bool false, .ref s.heap.objs.size, rawInt 0, .none, .none])) _ _ _
    unfold newObj newObjAsIs
    dsimp only
    rw [if_neg (by show ¬ (6 > sizeLine + 2); decide)]
    refine wpAny_bind (wpAny_alloc' ?_)
    refine wpAny_pure ?_
    unfold ret
    refine wpAny_pure ?_
    exact q
  show wpAny _ _ (Builtin.SmallTypes.calledThroughType (.type "enumerate") >>= _) _ _ s
  refine wpAny_bind ?_
  unfold Builtin.SmallTypes.calledThroughType
  refine wpAny_bind (wpAny_stack_any fun st => ?_)
  refine wpAny_pure ?_
  dsimp only
  split <;> (try split) <;> (try dsimp only) <;> (refine wpAny_bind ?_; refine wpAny_pure ?_; exact fin (fun f s' => ∃ v, f = .done (.ret v) ∧ R (.ok (.ret v)) s') (fun e s' => R (.error e) s') ⟨_, rfl, h.2⟩)
theorem enum_begins1 {prog : Program} {w : World} {A : Around} {E : Value → Shared → Prop} {s : Shared} {v : Value} {o : Obj} {H : Heap → Prop} {Q : Value → Shared → Prop} (b : Begins v o H) (hH : H s.heap)
    (k : ∀ h' : Heap, IsEnum h' (s.heap.objs.size + 1) s.heap.objs.size 0 .none → h'.get? s.heap.objs.size = some o → h'.objs.size = s.heap.objs.size + 2 → (∀ (c : Addr) (o' : Obj), s.heap.get? c = some o' → h'.get? c = some o') →
      Q (.ref (s.heap.objs.size + 1)) { heap := h', gens := s.gens, drawn := s.drawn, toks := s.toks, os := s.os }) :
    wpAny (model prog w) A (call (.type "enumerate") [v]) Q E s := by
  refine callType_new PySem.F.called_enumerate (by decide) (PySem.F.typeCall_enumerate_1 _) (PySem.F.newCall_enumerate_1 _) (fun obj => PySem.F.args_object_init_2 _ _) PySem.F.entry_enumerate_new (meets_enum1 b) ⟨hH, ?_⟩
  have h1 : (s.heap.push o).objs.size = s.heap.objs.size + 1 := Heap.size_push _ _
  have g1 : ((s.heap.push o).push { cls := .type "enumerate", data := .fields #[.none, .bool false, .ref s.heap.objs.size, rawInt 0, .none, .none] }).get? (s.heap.push o).objs.size = some { cls := .type "enumerate", data := .fields #[.none, .bool false, .ref s.heap.objs.size, rawInt 0, .none, .none] } := Heap.get?_push_size _ rfl
  refine ⟨⟨_, g1, rfl⟩, ?_⟩
  rw [h1] at g1 ⊢
  refine k _ g1 (Heap.get?_push_of_some _ (Heap.get?_push_size _ b.free)) (by rw [Heap.size_push, h1]) fun c o' e => Heap.get?_push_of_some _ (Heap.get?_push_of_some _ e)
end L2

set_option maxHeartbeats 4000000
namespace L2
open PySem PySem.Spec PyProof.Rows RZ
/-- enumerate over a list or a tuple -/
def IteK (K : PySem.W.Frag) (k : Kind) (a : Addr) : It :=
  ⟨fun i H => ∃ xs x, Sk K k H a xs ∧ xs[i]? = some x,
    fun i H v H' => ∃ T x, v = .ref T ∧ H T = none ∧ H' = upd H T (.tup [.int (i : Int), x]) ∧ ∀ xs, Sk K k H a xs → xs[i]? = some x,
    fun i H => ∃ xs, Sk K k H a xs ∧ xs.length = i⟩
theorem walk_e {K : PySem.W.Frag} {k : Kind} {a : Addr} {xs : List V} : Walk (IteK K k a) xs.length (fun H => Sk K k H a xs) (YPair (fun i => some (V.int (i : Int))) (fun i => xs[i]?)) :=
  ⟨fun i H hi q => ⟨xs, xs[i], q, by simp [hi]⟩, fun H q => ⟨xs, q, rfl⟩, fun i H v H' hi q y => by
    obtain ⟨T, x, rfl, hT, rfl, f⟩ := y
    exact ⟨T, _, x, rfl, hT, rfl, rfl, f xs q⟩⟩
theorem turn_enumK {P : Program} {w : World} {K : PySem.W.Frag} {k : Kind} {elts : List Expr} {kk : Nat} {tpos : Pos} {a e it : Addr} (ne : e ≠ it) (na : a ≠ it) (nae : a ≠ e) :
    Turn P w K (.Tuple elts kk tpos) (IteK K k a) [e, it] e (fun i h => (∃ old, IsEnum h e it (i : Int) old) ∧ IterK k h it a i) where
  mem := List.mem_cons_self
  obj := fun i h st c hc => by
    obtain ⟨⟨old, g1⟩, g2⟩ := st
    simp only [List.mem_cons, List.not_mem_nil, or_false] at hc
    rcases hc with rfl | rfl
    · exact ⟨_, g1, fun v e => by cases e⟩
    · exact iterK_obj g2
  keep := fun i h h' st kp => by
    obtain ⟨⟨old, g1⟩, g2⟩ := st
    exact ⟨⟨old, kp e (by simp) _ g1⟩, iterK_at g2 fun o q => kp it (by simp) o q⟩
  item := by
    intro X eP ew eK calm i pins s σ H E I own st go
    subst eP ew eK
    obtain ⟨⟨old, g1⟩, g2⟩ := st
    obtain ⟨xs, x0, qx, lx0⟩ := go
    obtain ⟨us, ru, pu⟩ := seq_k I qx
    have hu := ru.length
    have lx : i < xs.length := (List.getElem?_eq_some_iff.mp lx0).1
    have elt : e < s.heap.objs.size := Heap.lt_size g1
    have D := draws_k (P := X.prog) (w := X.w) (A := X.A.in1) k (I.ok.hd calm) it a na us.toArray
    refine wpAny_pyNext_enum_itemD D g1 ⟨g2, pu⟩ (by simp; omega) ne (by simp [ne, Ne.symm nae]) fun x1 h' tk px out s1 nt hsz kp => ?_
    obtain ⟨v1, e1, r1⟩ : ∃ v1, xs[i]? = some v1 ∧ RelV v1 x1 := by
      obtain ⟨u, hu', ru'⟩ := ru.get lx0
      have : u = x1 := by
        have px' : us[i]? = some x1 := by simpa using px
        rw [hu'] at px'
        exact Option.some.inj px'
      exact ⟨_, lx0, this ▸ ru'⟩
    refine ⟨_, rfl, wpAny_letOwnedTupleGo_enum (s := { s with heap := h', toks := tk + 1 }) out fun g z'' sb => ?_⟩
    have nt2 : g.get? s.heap.objs.size = some { cls := .type "tuple", data := .seq #[.int (i : Int) tk, x1] } := (sb.2 _ (Nat.ne_of_gt elt)).trans nt
    have ob : ObjOk X.prog X.w (upd H s.heap.objs.size (.tup [.int (i : Int), v1])) g s.heap.objs.size (.tup [.int (i : Int), v1]) :=
      ⟨by show 2 ≤ sizeLine; decide, [.int (i : Int) tk, x1], .cons ⟨tk, rfl⟩ (.cons r1 .nil), _, nt2, rfl, _, rfl⟩
    have all : ∀ c o, ¬ c ∈ [e, it] → s.heap.get? c = some o → g.get? c = some o := fun c o hn q => by
      simp only [List.mem_cons, List.not_mem_nil, or_false, not_or] at hn
      exact (sb.2 c hn.1).trans (kp c o hn.1 hn.2 q)
    have J := I.turnedNew (t' := tk + 1) (ch := [e, it]) all own (Nat.le_refl _) ob
    refine ⟨.ref s.heap.objs.size, _, J, rfl, ⟨_, v1, rfl, I.hok.fresh (Nat.le_refl _), rfl, fun l hl => by rw [sk_inj I hl qx]; exact e1⟩, ⟨⟨_, z''⟩, ?_⟩, fun c hc => ?_⟩
    · exact iterK_at s1.1 fun o q => (sb.2 it ne.symm).trans q
    · have clt : c < s.heap.objs.size := by
        simp only [List.mem_cons, List.not_mem_nil, or_false] at hc
        rcases hc with rfl | rfl
        · exact elt
        · obtain ⟨_, q, _⟩ := iterK_obj g2; exact Heap.lt_size q
      rw [upd_ne (Nat.ne_of_lt clt)]
      exact (own c hc).1
  done := by
    intro X eP ew eK calm i pins s σ H E I own st go
    subst eP ew eK
    obtain ⟨⟨old, g1⟩, g2⟩ := st
    obtain ⟨xs, qx, lx⟩ := go
    obtain ⟨us, ru, pu⟩ := seq_k I qx
    have hu := ru.length
    have D := draws_k (P := X.prog) (w := X.w) (A := X.A.in1) k (I.ok.hd calm) it a na us.toArray
    have hi : i = us.toArray.size := by simp; omega
    rw [hi] at g1 g2
    refine wpAny_pyNext_enum_endD D g1 ⟨g2, pu⟩ fun h' kp => ⟨rfl, ?_⟩
    refine I.turnedL (t' := s.toks) (ch := [e, it]) (fun c o hn q => ?_) own
    simp only [List.mem_cons, List.not_mem_nil, or_false, not_or] at hn
    exact kp c o hn.2 q
  self := fun A i s Q E st h => by
    obtain ⟨⟨old, g1⟩, _⟩ := st
    exact wpAny_pyIter_enum g1 h
def iEnumK (K : PySem.W.Frag) (ta : TA) : TI := fun σ H R => ta σ H fun vs H1 => ∃ k a xs, vs = [.ref a] ∧ Sk K k H1 a xs ∧ R (IteK K k a) H1
theorem pi_enumK {X : Cx} {e : PySem.Expr} {ta : TA} {p pos tpos : Pos} {elts : List PySem.Expr} {kk : Nat} (hg : Gl X "enumerate") (hm : X.mg "enumerate" = none) (ha : PA X [e] ta)
    (hs : starEach [e] X.env = (false, eval e X.env) :: starEach [] X.env := by rfl) (hpl : (backTo pos (starEach [] X.env)).any (·.1) = false := by rfl) :
    PI X (.Tuple elts kk tpos) (.Call (.Name "enumerate" p) [e] [] pos) (iEnumK X.K ta) := by
  refine ⟨fun pins s σ H R I h => Call_ (ld_blt I hg hm PyProof.Rows.boot_enumerate (PyProof.Rows.callWith_type1 (thn (ha.run pos pins s σ H _ I h) fun us t q => ?_) hs hpl))⟩
  obtain ⟨vs, G, J, r1, k, a, xs, ev, qx, q⟩ := q
  subst ev
  cases r1 with
  | cons ra rr =>
    cases rr
    cases ra
    obtain ⟨us, ru, pu⟩ := seq_k J qx
    have la := seqK_lt pu
    refine enum_begins1 (begins_k k a us.toArray) pu fun h' g1 g2 hsz kp => wpAny_pyIter_enum g1 ?_
    generalize hN : t.heap.objs.size = N at la g1 g2
    have J2 : Inv X pins σ G { t with heap := h' } := J.kept (t' := t.toks) kp
    refine ⟨N + 1, [N + 1, N], _, _, G, rfl, J2, turn_enumK (k := k) (a := a) (Nat.succ_ne_self N) (Nat.ne_of_lt la) (Nat.ne_of_lt (Nat.lt_succ_of_lt la)), ⟨⟨_, g1⟩, iter_0 g2⟩, fun c hc => ?_, q⟩
    have le : t.heap.objs.size ≤ c := by
      rw [hN]
      simp only [List.mem_cons, List.not_mem_nil, or_false] at hc
      rcases hc with h1 | h1 <;> rw [h1]
      · exact Nat.le_succ N
      · exact Nat.le_refl N
    exact J.fpOk le (J.hok.fresh le)
end L2

set_option maxHeartbeats 8000000
namespace PA
open PySem L2 RZ
open C8 (pss_cut tCut)
abbrev sLeastF : Stmt := top 13
abbrev sClasses : Stmt := top 14
abbrev sSplit : Stmt := top 15
abbrev sNumbered : Stmt := top 16
abbrev sMerged : Stmt := top 17
abbrev sRenum : Stmt := top 18
abbrev sVisit : Stmt := top 19
theorem u1 {a : Nat} (h : a + 64 < cLine) : a + 1 < cLine := Nat.lt_of_le_of_lt (Nat.add_le_add_left (by decide) a) h
/-- the numbers of some keys, as entries -/
def tab {κ κ' : Type} (f : κ → κ') (n : Nat) (u : List κ) : List (κ' × V) := (u.zipIdx n).map fun x => (f x.1, V.int (x.2 : Int))
section
variable {κ κ' : Type} [DecidableEq κ] [DecidableEq κ'] {f : κ → κ'}
theorem tab_val (inj : ∀ a b, f a = f b → a = b) (k : κ) : ∀ (u : List κ) (n : Nat), valV (tab f n u) (f k) = if k ∈ u then some (V.int ((n + LF.ix u k : Nat) : Int)) else none
  | [], n => by rfl
  | a :: u, n => by
    have ih := tab_val inj k u (n + 1)
    unfold tab at ih ⊢
    rw [List.zipIdx_cons, List.map_cons]
    unfold valV at ih ⊢
    rw [List.find?_cons]
    by_cases e : a = k
    · subst e
      simp [LF.ix]
    · have e' : ¬ f a = f k := fun z => e (inj _ _ z)
      rw [decide_eq_false e']
      rw [ih]
      have em : (k ∈ a :: u) ↔ k ∈ u := by simp [Ne.symm e]
      by_cases hk : k ∈ u
      · rw [if_pos hk, if_pos (em.mpr hk)]
        have ei : LF.ix (a :: u) k = LF.ix u k + 1 := by
          show (if a = k then 0 else LF.ix u k + 1) = _
          rw [if_neg e]
        rw [ei, show n + 1 + LF.ix u k = n + (LF.ix u k + 1) from by omega]
      · rw [if_neg hk, if_neg (fun z => hk (em.mp z))]
theorem tab_len (u : List κ) (n : Nat) : (tab f n u).length = u.length := by unfold tab; simp
theorem tab_snoc (u : List κ) (n : Nat) (k : κ) : tab f n (u ++ [k]) = tab f n u ++ [(f k, V.int ((n + u.length : Nat) : Int))] := by
  unfold tab
  rw [List.zipIdx_append, List.map_append]
  simp [Nat.add_comm]
end
def rIxDP (P : Program) (w : World) : R2 := fun x y H Q => ∃ d b ps k v, x = .ref d ∧ y = .ref b ∧ DxAt P w H d ps ∧ KeyAt H b k ∧ valV ps k = some v ∧ Q v H
theorem ix_dxP {X : Cx} {P : Program} {w : World} (h1 : X.prog = P) (h2 : X.w = w) (hu : X.A.units + 1 < cLine) : IxR X (rIxDP P w) := by
  subst h1 h2
  exact ix_dx hu
def natsV (ns : List Nat) : List V := ns.map fun (n : Nat) => V.int ((n : Nat) : Int)
def spNumbered {κ : Type} [DecidableEq κ] (f : κ → LKey) : Sp := fun vs H Q _ => ∃ (L : Addr) (refs : List V) (ks : List κ), vs = [.ref L] ∧ H L = some (.lst refs) ∧ Ea H (fun H c k => KeyAt H c (f k)) refs ks ∧ ks.length ≤ 3000 ∧
  ∀ p H', H' p = some (.lst (natsV (LF.numb ks))) → H p = none → Same H H' → Q (.ref p) H'
section
variable {P : Program} {w : World} {K : PySem.W.Frag} {mg : Str → Option Value} {base : Heap} {C : Addr}
theorem scNumbered : FnScope ["keys", "numbers", "key"] ["keys"] (defScope sNumbered) := ⟨rfl, rfl, rfl, by decide +kernel, rfl, by decide +kernel, by decide +kernel⟩
theorem ok_numbered {κ : Type} [DecidableEq κ] {fk : κ → LKey} (inj : ∀ a b, fk a = fk b → a = b) {f : Addr} {fd : FuncData} (F : Fun K "_numbered" "_numbered" sNumbered f fd) (T : Txt K mg C) : FnOk P w K mg base CX0 1 f fd ["keys"] (spNumbered fk) := by
  refine F.ok scNumbered (fun vs H Q E h => ?_) (fun cdv A outer s H vs Q E hr h => ?_)
  · obtain ⟨L, _, _, rfl, _⟩ := h
    rfl
  · obtain ⟨L, refs, ks, rfl, hL, hE, hk, kk⟩ := h
    have hu := u1 hr.units
    have hlr : refs.length = ks.length := hE.1
    refine ⟨_, pss_cons (ps_set (i := 1) scNumbered.nd rfl (Or.inr rfl) pe_dnewX)
      (pss_cut (ps_for PassesOwn.never rfl (pi_list (pv 0)) (pg_name (i := 2) scNumbered.nd rfl (Or.inl rfl))
        (pss_one (ps_if (pt_cmpR (op_notIn_dx hu) (pv 2) (pv 1) rfl) (pss_one (ps_asg (pe_callB call_len_dx (by rfl) T.len_ PySem.boot_len (pa_cons (pv 1) pa_nil)) (pg_sub (pv 1) (pv 2) (set_dx hu)))) pss_nil)))
      (pss_one (ps_ret (pe_lc (own := [("key", 2)]) (g := gName 2) (tt := tYes) (by rfl) scNumbered.nd (pi_list (pv 0)) (blkOk_by (N := ["keys", "numbers", "key"]) (sc := defScope sNumbered) (by decide +kernel))
          (fun _ _ _ _ _ => pg_name (i := 2) scNumbered.nd rfl (Or.inl rfl)) (fun _ _ _ _ _ => pts_nil)
          (fun _ _ _ _ _ => pe_ix (ix_dxP (P := P) (w := w) rfl rfl hu) (pv 1) (pv 2) (fun _ _ => rfl)))))), ?_⟩
    refine fun d hd => ?_
    have sd := Same.new (o := DX P w d []) hd
    refine ⟨fun σ' H' => ∃ x2 kvs, σ' = [some (.ref L), some (.ref d), x2] ∧ Same H H' ∧ H' d = some (DX P w d kvs) ∧ (∀ p ∈ kvs, KeyAt H' p.2.1 p.1) ∧ kvs.map (fun p => (p.1, p.2.2)) = tab fk 0 (LF.uniq ks), ?_, ?_⟩
    · refine ⟨_, rfl, L, rfl, ⟨_, SqL.of (sd _ _ hL)⟩, ?_⟩
      refine for_list (K := K) (a := L) (xs := refs) (fun i σ' H' => ∃ x2 kvs, σ' = [some (.ref L), some (.ref d), x2] ∧ Same H H' ∧ H' d = some (DX P w d kvs) ∧ (∀ p ∈ kvs, KeyAt H' p.2.1 p.1) ∧ kvs.map (fun p => (p.1, p.2.2)) = tab fk 0 (LF.uniq (ks.take i))) ?_ ?_ ?_ ?_
      · exact ⟨none, [], rfl, sd, upd_same, fun p hp => (List.not_mem_nil hp).elim, rfl⟩
      · rintro i σ' H' _ ⟨_, _, _, s', _⟩
        exact SqL.of (s' _ _ hL)
      · rintro i x _ H' hx ⟨x2, kvs, rfl, s', hd', ka, em⟩
        obtain ⟨c, k, rfl, hk', hc⟩ := hE.at_ hx
        have hcS : KeyAt H' c (fk k) := hc.kt fun b ys e => s' _ _ e
        have hval := tab_val (f := fk) inj k (LF.uniq (ks.take i)) 0
        have hn : LF.uniq (ks.take (i + 1)) = LF.push (LF.uniq (ks.take i)) k := by rw [L2.take_succ' hk', LF.uniq_snoc]
        refine ⟨_, rfl, _, rfl, d, c, _, fk k, rfl, rfl, ⟨kvs, hd', em, ka⟩, hcS, _, rfl, ?_⟩
        rw [hval]
        by_cases hm : k ∈ LF.uniq (ks.take i)
        · rw [if_pos hm]
          refine iteF ⟨_, kvs, rfl, s', hd', ka, ?_⟩
          rw [hn, LF.push, if_pos hm]
          exact em
        · rw [if_neg hm] at hval ⊢
          refine iteT ?_
          have hlk : kvs.length = (LF.uniq (ks.take i)).length := by
            have := congrArg List.length em
            rw [List.length_map, tab_len] at this
            exact this
          have hle : (LF.uniq (ks.take i)).length ≤ 3000 := Nat.le_trans (LF.uniq_len _) (by rw [List.length_take]; omega)
          refine ⟨_, rfl, d, kvs, rfl, hd', ka, _, rfl, _, rfl, d, c, kvs, fk k, rfl, rfl, hd', ka, hcS, by rw [em, hval], Nat.lt_of_le_of_lt (by omega : kvs.length ≤ 3000) (by decide), ?_⟩
          have dk : ∀ b ys, H' b = some (.tup ys) → b ≠ d := fun b ys e => ne_of e hd' (by intro z; cases z)
          refine ⟨_, kvs ++ [(fk k, c, .int (kvs.length : Int))], rfl, fun b o e => ?_, upd_same, fun p hp => ?_, ?_⟩
          · rw [upd_ne (ne_of_none e hd)]
            exact s' _ _ e
          · have up : ∀ b k', KeyAt H' b k' → KeyAt (upd H' d (DX P w d (kvs ++ [(fk k, c, .int (kvs.length : Int))]))) b k' := fun b k' q => q.kt fun b' ys e => by rw [upd_ne (dk b' ys e)]; exact e
            rcases List.mem_append.mp hp with hp | hp
            · exact up _ _ (ka p hp)
            · cases List.mem_singleton.mp hp
              exact up _ _ hcS
          · rw [hn, LF.push, if_neg hm, tab_snoc, List.map_append, em, hlk]
            simp
      · rintro σ' H' ⟨x2, kvs, rfl, s', hd', ka, em⟩
        rw [hlr, List.take_length] at em
        exact ⟨x2, kvs, rfl, s', hd', ka, em⟩
    rintro _ H1 ⟨x2, kvs, rfl, s1, hd1, ka, em⟩
    refine ⟨_, rfl, L, rfl, ⟨_, SqL.of (s1 _ _ hL)⟩, fun Dd hD => ?_⟩
    refine lc_same (xs := refs) (walk_l (K := K) (a := L) (xs := refs)) (by rw [hlr]; exact Nat.le_trans hk (by decide)) hD (fun H' s' => SqL.of (s' _ _ (s1 _ _ hL))) (natsV (LF.numb ks)) (by unfold natsV; rw [List.length_map, LF.numb_len, hlr]) (fun i x y H' Φ Ψ hx hy sm kf => ?_) fun H2 s2 hd2 => ?_
    · obtain ⟨c, k, rfl, hk', hc⟩ := hE.at_ hx
      have hyv : y = V.int ((LF.ix (LF.uniq ks) k : Nat) : Int) := by
        unfold natsV at hy
        rw [List.getElem?_map, LF.numb_get hk'] at hy
        injection hy with hy
        exact hy.symm
      have hmk : k ∈ LF.uniq ks := LF.uniq_mem.mpr (List.mem_of_getElem? hk')
      have hval := tab_val (f := fk) inj k (LF.uniq ks) 0
      rw [if_pos hmk, Nat.zero_add] at hval
      refine ⟨rfl, ?_⟩
      dsimp only [tYes]
      rw [if_pos rfl]
      refine ⟨_, rfl, _, rfl, d, c, _, fk k, y, rfl, rfl, ⟨kvs, sm _ _ hd1, em, fun p hp => (ka p hp).kt fun b ys e => sm _ _ e⟩, hc.kt fun b ys e => sm _ _ (s1 _ _ e), by rw [hval, hyv], kf H' fun _ _ e => e⟩
    · exact kk Dd H2 hd2 (L2.Same.none s1 hD) (s1.trans s2)
end
end PA

set_option maxHeartbeats 8000000
namespace L2
open PySem PySem.Spec PyProof.Rows
section
variable {J : It} {n : Nat} {G : Hp → Prop} {f1 f2 : Nat → Option V} {g : TG} {tt : TT} {te : TE} {vs : List Nat} {σ : L2.St} {H1 : Hp} {D : Addr} {Qd : Hp → Prop}
/-- as lc_acc, over pairs -/
theorem lc_accP (w : Walk J n G (YPair f1 f2)) (hn : n ≤ sizeLine) (hD : H1 D = none) (hG : ∀ H, Same H1 H → G H) (A : Nat → List V → Hp → Prop) (hl : ∀ i acc H, A i acc H → acc.length ≤ i) (A0 : A 0 [] (upd H1 D (.lst [])))
    (hs : ∀ (i : Nat) (a b : V) (T : Addr) (H : Hp) (acc : List V) (Φ : V → Hp → Prop) (Ψ : Hp → Prop), i < n → f1 i = some a → f2 i = some b → Same H1 H → H D = some (.lst acc) → A i acc H → H T = none →
      (∀ y H4, Same (upd H T (.tup [a, b])) H4 → (∀ H5, But D H4 H5 → A (i + 1) (acc ++ [y]) H5) → Φ y H4) →
      g (.ref T) (wipe σ vs) (upd H T (.tup [a, b])) fun σ2 H2 => wipe σ2 vs = wipe σ vs ∧ tt σ2 H2 fun b H3 => if b = true then te σ2 H3 Φ else Ψ H3)
    (hd : ∀ H acc, Same H1 H → H D = some (.lst acc) → A n acc H → Qd H) :
    ∃ W : Nat → Nat → Hp → Prop, (∃ m, W 0 m (upd H1 D (.lst []))) ∧ ∀ i m H, W i m H →
      (J.stop i H ∧ Qd H) ∨ (J.go i H ∧ ∃ Nx : Hp → Prop, (∀ H', Nx H' → ∃ m', m' < m ∧ W (i + 1) m' H') ∧ ∀ x H', J.yld i H x H' → g x (wipe σ vs) H' fun σ2 H2 => wipe σ2 vs = wipe σ vs ∧ tt σ2 H2 fun b H3 =>
        if b = true then te σ2 H3 fun y H4 => ∃ acc, H4 D = some (.lst acc) ∧ acc.length < sizeLine ∧ Nx (upd H4 D (.lst (acc ++ [y]))) else Nx H3) := by
  refine lc_it w (fun i H => Same H1 H ∧ ∃ acc, H D = some (.lst acc) ∧ A i acc H) ⟨new_ hD, [], upd_same, A0⟩ (fun i H _ p => hG H p.1) (fun i x H H' hi p y => ?_) fun H p => ?_
  · obtain ⟨T, a, b, rfl, hT, rfl, h1, h2⟩ := y
    obtain ⟨sm, acc, hd', ha⟩ := p
    have sT := new_ (o := .tup [a, b]) hT
    refine hs i a b T _ acc _ _ hi h1 h2 sm hd' ha hT fun y H4 s4 k => ⟨acc, s4 _ _ (sT _ _ hd'), Nat.lt_of_lt_of_le (Nat.lt_of_le_of_lt (hl _ _ _ ha) hi) hn, fun c o e => ?_, acc ++ [y], upd_same, k _ fun c o cd e => ?_⟩
    · rw [upd_ne (ne_of_none e hD)]
      exact s4 _ _ (sT _ _ (sm _ _ e))
    · rw [upd_ne cd]
      exact e
  · obtain ⟨sm, acc, hd', ha⟩ := p
    exact hd H acc sm hd' ha
end
end L2
namespace PA
open PySem L2 RZ
open C8 (pss_cut tCut)
def rIxLK (K : PySem.W.Frag) : R2 := fun x y H Q => ∃ p xs i v, x = .ref p ∧ y = .int i ∧ SqL K H p xs ∧ atI xs i = some v ∧ Q v H
theorem ix_listK {X : Cx} {K : PySem.W.Frag} (h : X.K = K) : IxR X (rIxLK K) := h ▸ ix_list
abbrev Rn := LF.Row Bool
def rz (r : Rn) : Rw := ((r.1 : Int), r.2.1, (r.2.2.1 : Int), r.2.2.2)
abbrev isR : Hp → Addr → Rn → Prop := fun H c r => isT H c (rz r)
def lk2 (k : Bool × Bool) : LKey := [.num (if k.1 = true then 1 else 0), .num (if k.2 = true then 1 else 0)]
def lk3 (k : Nat × Nat × Nat) : LKey := [.num (k.1 : Int), .num (k.2.1 : Int), .num (k.2.2 : Int)]
theorem lk2_inj (a b : Bool × Bool) (h : lk2 a = lk2 b) : a = b := by
  obtain ⟨a1, a2⟩ := a
  obtain ⟨b1, b2⟩ := b
  revert h
  cases a1 <;> cases a2 <;> cases b1 <;> cases b2 <;> decide
theorem lk3_inj (a b : Nat × Nat × Nat) (h : lk3 a = lk3 b) : a = b := by
  obtain ⟨a1, a2, a3⟩ := a
  obtain ⟨b1, b2, b3⟩ := b
  unfold lk3 at h
  simp only [List.cons.injEq, Leaf.num.injEq, and_true] at h
  obtain ⟨h1, h2, h3⟩ := h
  have e1 : a1 = b1 := by omega
  have e2 : a2 = b2 := by omega
  have e3 : a3 = b3 := by omega
  rw [e1, e2, e3]
theorem nat_at {cs : List Nat} {i : Nat} (h : i < cs.length) : atI (natsV cs) (i : Int) = some (V.int ((LF.at_ cs i : Nat) : Int)) := by
  refine atI_nat ?_
  unfold natsV
  rw [List.getElem?_map, LF.get_of_lt h]
  rfl
def spSplit (K : PySem.W.Frag) : Sp := fun vs H Q _ => ∃ (R L : Addr) (k : L2.Kind) (refs : List V) (rows : List Rn) (cs : List Nat), vs = [.ref R, .ref L] ∧ Sk K k H R refs ∧ Ea H isR refs rows ∧ H L = some (.lst (natsV cs)) ∧ cs.length = rows.length ∧ LF.TOk rows ∧ rows.length ≤ 3000 ∧
  ∀ p H', H' p = some (.lst (natsV (LF.split rows cs))) → H p = none → Same H H' → Q (.ref p) H'
section
variable {P : Program} {w : World} {K : PySem.W.Frag} {mg : Str → Option Value} {base : Heap} {C : Addr}
theorem scSplit : FnScope ["rows", "classes", "state", "row"] ["rows", "classes"] (defScope sSplit) := ⟨rfl, rfl, rfl, by decide +kernel, rfl, by decide +kernel, by decide +kernel⟩
theorem ok_split {f g : Addr} {fd gd : FuncData} (F : Fun K "_split" "_split" sSplit f fd) (T : Txt K mg C) (hen : mg "enumerate" = none) (D : Df K mg "_numbered" sNumbered g gd ["keys"]) : FnOk P w K mg base CX0 2 f fd ["rows", "classes"] (spSplit K) := by
  have G : FnOk P w K mg base CX0 1 g gd ["keys"] (spNumbered lk3) := ok_numbered lk3_inj D.F T
  refine F.ok scSplit (fun vs H Q E h => ?_) (fun cdv A outer s H vs Q E hr h => ?_)
  · obtain ⟨R, L, _, _, _, _, rfl, _⟩ := h
    rfl
  · obtain ⟨R, L, k, refs, rows, cs, rfl, hR, hE, hL, hcs, ok, hsz, kk⟩ := h
    have hlr : refs.length = rows.length := hE.1
    refine ⟨_, pss_one (ps_ret (pe_call G hr rfl D.M D.F.kp D.B .nil pass0 (pa_cons (pe_lc (own := [("state", 2), ("row", 3)]) (g := gTup K 2 (gCons (gName 2) (gCons (gName 3) gNil))) (tt := tYes) (by rfl) scSplit.nd (pi_enumK (by rfl) hen (pa_cons (pv 0) pa_nil)) (blkOk_by (N := ["rows", "classes", "state", "row"]) (sc := defScope sSplit) (by decide +kernel))
          (fun _ _ _ _ _ => by exact pg_tup rfl (pgs_cons (pg_name (i := 2) scSplit.nd rfl (Or.inl rfl)) (pgs_cons (pg_name (i := 3) scSplit.nd rfl (Or.inl rfl)) pgs_nil))) (fun _ _ _ _ _ => pts_nil)
          (fun _ _ _ _ _ => pe_tup (pa_cons (pe_ix (ix_listK (K := K) rfl) (pv 1) (pv 2) (fun _ _ => rfl)) (pa_cons (pe_ix (ix_listK (K := K) rfl) (pv 1) (pe_ix (ix_tupK (K := K) rfl) (pv 3) pe_int (fun _ _ => rfl)) (fun _ _ => rfl)) (pa_cons (pe_ix (ix_listK (K := K) rfl) (pv 1) (pe_ix (ix_tupK (K := K) rfl) (pv 3) pe_int (fun _ _ => rfl)) (fun _ _ => rfl)) pa_nil))))) pa_nil))), ?_⟩
    refine ⟨_, rfl, k, R, refs, rfl, hR, fun Dd hD => ?_⟩
    refine lc_accP (walk_e (K := K) (k := k) (a := R) (xs := refs)) (by rw [hlr]; exact Nat.le_trans hsz (by decide)) hD (fun H' s' => hR.up s') (fun i acc H' => Ea H' (fun H c k => KeyAt H c (lk3 k)) acc ((rows.zipIdx.map (LF.key2 cs)).take i)) (fun i acc H' e => by rw [e.1, List.length_take]; omega) (by rw [List.take_zero]; exact Ea.nil) (fun i x y t H' acc Φ Ψ hi hx hy sm hd he ht kf => ?_) fun H1 acc s1 hd he => ?_
    · cases hx
      obtain ⟨c, r, rfl, hr', hc⟩ := hE.at_ hy
      have st := Same.new (o := .tup [.int (i : Int), .ref c]) ht
      have hL' := st _ _ (sm _ _ hL)
      have hc' : isT (upd H' t (.tup [.int (i : Int), .ref c])) c (rz r) := st _ _ (sm _ _ hc)
      obtain ⟨o1, o2⟩ := ok r (List.mem_of_getElem? hr')
      refine ⟨t, _, rfl, SqT.of upd_same, rfl, _, _, rfl, _, _, rfl, rfl, rfl, ?_⟩
      dsimp only [tYes]
      rw [if_pos rfl]
      refine ⟨_, rfl, _, rfl, L, _, _, _, rfl, rfl, SqL.of hL', nat_at (by rw [hcs, ← hlr]; exact hi), _, rfl, _, rfl, c, _, 0, _, rfl, rfl, SqT.of hc', rfl, L, _, _, _, rfl, rfl, SqL.of hL', nat_at (by rw [hcs]; exact o1), _, rfl, _, rfl, c, _, 2, _, rfl, rfl, SqT.of hc', rfl, L, _, _, _, rfl, rfl, SqL.of hL', nat_at (by rw [hcs]; exact o2), by show 3 ≤ sizeLine; decide, fun u hu => ?_⟩
      have su := Same.new (o := .tup [.int ((LF.at_ cs i : Nat) : Int), .int ((LF.at_ cs r.1 : Nat) : Int), .int ((LF.at_ cs r.2.2.1 : Nat) : Int)]) hu
      refine kf _ _ su fun H5 b5 => ?_
      have hz : (rows.zipIdx.map (LF.key2 cs))[i]? = some (LF.key2 cs (r, i)) := by rw [List.getElem?_map, LF.zip_get hr']; rfl
      rw [L2.take_succ' hz]
      have hdd : ∀ b ys, (upd (upd H' t (.tup [.int (i : Int), .ref c])) u (.tup [.int ((LF.at_ cs i : Nat) : Int), .int ((LF.at_ cs r.1 : Nat) : Int), .int ((LF.at_ cs r.2.2.1 : Nat) : Int)])) b = some (.tup ys) → b ≠ Dd := fun b ys e => ne_of e (su _ _ (st _ _ hd)) (by intro z; cases z)
      refine Ea.push (he.imp fun c' k' q => q.kt fun b ys e => ?_) ⟨_, b5 _ _ (hdd _ _ upd_same) upd_same, .cons (.inl rfl) (.cons (.inl rfl) (.cons (.inl rfl) .nil))⟩
      have e' := su _ _ (st _ _ e)
      exact b5 _ _ (hdd _ _ e') e'
    · have hl2 : refs.length = (rows.zipIdx.map (LF.key2 cs)).length := by simp [hlr]
      rw [hl2, List.take_length] at he
      exact ⟨Dd, acc, _, rfl, hd, he, by simp; exact hsz, fun p H' hp hn s' => kk p H' hp (L2.Same.none s1 hn) (s1.trans s')⟩
end
end PA

set_option maxHeartbeats 8000000
namespace PA
open PySem L2 RZ
open C8 (pss_cut tCut)
theorem ints_eqv : ∀ ns ms : List Int, PyData.eqv (.list (ns.map PyData.int)) (.list (ms.map PyData.int)) = decide (ns = ms)
  | [], [] => by simp [PyData.eqv, PyData.eqvAll]
  | [], m :: ms => by simp [PyData.eqv, PyData.eqvAll]
  | n :: ns, [] => by simp [PyData.eqv, PyData.eqvAll]
  | n :: ns, m :: ms => by
    have ih := ints_eqv ns ms
    simp only [PyData.eqv] at ih
    simp only [List.map_cons, PyData.eqv, PyData.eqvAll]
    rw [ih]
    by_cases e : n = m
    · subst e
      by_cases e2 : ns = ms
      · subst e2; simp
      · simp [e2]
    · simp [e]
theorem natsV_ints (ns : List Nat) : natsV ns = (ns.map fun (n : Nat) => ((n : Nat) : Int)).map V.int := by
  unfold natsV
  rw [List.map_map]
  rfl
theorem nats_inj {ns ms : List Nat} : (ns.map fun (n : Nat) => ((n : Nat) : Int)) = (ms.map fun (n : Nat) => ((n : Nat) : Int)) ↔ ns = ms := by
  exact List.map_inj_right (fun a b e => Int.ofNat.inj e)
def spClasses (K : PySem.W.Frag) : Sp := fun vs H Q _ => ∃ (R : Addr) (k : L2.Kind) (refs : List V) (rows : List Rn), vs = [.ref R] ∧ Sk K k H R refs ∧ Ea H isR refs rows ∧ LF.TOk rows ∧ rows.length ≤ 3000 ∧
  ∀ p H', H' p = some (.lst (natsV (LF.cls rows))) → H p = none → Same H H' → Q (.ref p) H'
section
variable {P : Program} {w : World} {K : PySem.W.Frag} {mg : Str → Option Value} {base : Heap} {C : Addr}
theorem scClasses : FnScope ["rows", "classes", "finer", "row"] ["rows"] (defScope sClasses) := ⟨rfl, rfl, rfl, by decide +kernel, rfl, by decide +kernel, by decide +kernel⟩
theorem ok_classes {f g g2 : Addr} {fd gd gd2 : FuncData} (F : Fun K "_classes" "_classes" sClasses f fd) (T : Txt K mg C) (hen : mg "enumerate" = none) (D : Df K mg "_numbered" sNumbered g gd ["keys"]) (D2 : Df K mg "_split" sSplit g2 gd2 ["rows", "classes"]) : FnOk P w K mg base CX0 3 f fd ["rows"] (spClasses K) := by
  have G : FnOk P w K mg base CX0 1 g gd ["keys"] (spNumbered lk2) := ok_numbered lk2_inj D.F T
  have G2 : FnOk P w K mg base CX0 2 g2 gd2 ["rows", "classes"] (spSplit K) := ok_split D2.F T hen D
  refine F.ok scClasses (fun vs H Q E h => ?_) (fun cdv A outer s H vs Q E hr h => ?_)
  · obtain ⟨R, _, _, _, rfl, _⟩ := h
    rfl
  · obtain ⟨R, k, refs, rows, rfl, hR, hE, ok, hsz, kk⟩ := h
    have hr1 : Room 1 _ := hr.mono (by decide)
    have hlr : refs.length = rows.length := hE.1
    refine ⟨_, pss_cons (ps_set (i := 1) scClasses.nd rfl (Or.inl rfl) (pe_call G hr1 rfl D.M D.F.kp D.B .nil pass0 (pa_cons (pe_lc (own := [("row", 3)]) (g := gName 3) (tt := tYes) (by rfl) scClasses.nd (pi_sq (pv 0)) (blkOk_by (N := ["rows", "classes", "finer", "row"]) (sc := defScope sClasses) (by decide +kernel))
          (fun _ _ _ _ _ => pg_name (i := 3) scClasses.nd rfl (Or.inl rfl)) (fun _ _ _ _ _ => pts_nil)
          (fun _ _ _ _ _ => pe_tup (pa_cons (pe_ix (ix_tupK (K := K) rfl) (pv 3) pe_int (fun _ _ => rfl)) (pa_cons (pe_ix (ix_tupK (K := K) rfl) (pv 3) pe_int (fun _ _ => rfl)) pa_nil)))) pa_nil)))
      (pss_cons (ps_set (i := 2) scClasses.nd rfl (Or.inl rfl) (pe_call G2 hr rfl D2.M D2.F.kp D2.B .nil pass0 (pa_cons (pv 0) (pa_cons (pv 1) pa_nil))))
      (pss_cons (ps_while PassesOwn.never (pt_cmpR (op_neD hr.units) (pv 2) (pv 1) (nomark _))
        (pss_cons (ps_set (i := 1) scClasses.nd rfl (Or.inl rfl) (pv 2)) (pss_one (ps_set (i := 2) scClasses.nd rfl (Or.inl rfl) (pe_call G2 hr rfl D2.M D2.F.kp D2.B .nil pass0 (pa_cons (pv 0) (pa_cons (pv 1) pa_nil)))))))
      (pss_one (ps_ret (pv 1))))), ?_⟩
    refine ⟨k, _, rfl, R, rfl, ⟨_, hR⟩, fun Dd hD => ?_⟩
    refine lc_acc (xs := refs) (walk_k (k := k)) (by rw [hlr]; exact Nat.le_trans hsz (by decide)) hD (fun H' s' => hR.up s') (fun i acc H' => Ea H' (fun H c k => KeyAt H c (lk2 k)) acc ((rows.map LF.key1).take i)) (fun i acc H' e => by rw [e.1, List.length_take]; omega) (by rw [List.take_zero]; exact Ea.nil) (fun i x H' acc Φ Ψ hi hx sm hd he kf => ?_) fun H1 acc s1 hd he => ?_
    · obtain ⟨c, r, rfl, hr', hc⟩ := hE.at_ hx
      have hc' : isT H' c (rz r) := sm _ _ hc
      refine ⟨rfl, ?_⟩
      dsimp only [tYes]
      rw [if_pos rfl]
      refine ⟨_, rfl, c, _, _, _, rfl, rfl, SqT.of hc', rfl, _, rfl, c, _, _, _, rfl, rfl, SqT.of hc', rfl, by show 2 ≤ sizeLine; decide, fun u hu => ?_⟩
      have su := Same.new (o := .tup [.bl r.2.1, .bl r.2.2.2]) hu
      refine kf _ _ su (su _ _ hd) fun H5 h5 b5 _ => ?_
      have hz : (rows.map LF.key1)[i]? = some (LF.key1 r) := by rw [List.getElem?_map, hr']; rfl
      rw [L2.take_succ' hz]
      have hdd : ∀ b ys, (upd H' u (.tup [.bl r.2.1, .bl r.2.2.2])) b = some (.tup ys) → b ≠ Dd := fun b ys e => ne_of e (su _ _ hd) (by intro z; cases z)
      refine Ea.push (he.imp fun c' k' q => q.kt fun b ys e => ?_) ⟨_, b5 _ _ (hdd _ _ upd_same) upd_same, .cons (.inr ⟨_, rfl, rfl⟩) (.cons (.inr ⟨_, rfl, rfl⟩) .nil)⟩
      exact b5 _ _ (hdd _ _ (su _ _ e)) (su _ _ e)
    have hl2 : refs.length = (rows.map LF.key1).length := by simp [hlr]
    rw [hl2, List.take_length] at he
    refine ⟨Dd, acc, _, rfl, hd, he, by simp; exact hsz, fun p H2 hp hpn s2 => ?_⟩
    have s12 := s1.trans s2
    have hp0 := L2.Same.none s1 hpn
    have clen : ∀ j, (LF.chain rows j).length = rows.length := LF.chain_len
    refine ⟨_, rfl, _, rfl, R, p, k, refs, rows, LF.chain rows 0, rfl, hR.up s12, hE.imp (fun c r q => s12 _ _ q), hp, clen 0, ok, hsz, fun q H3 hq hqn s3 => ?_⟩
    obtain ⟨kr, _, hmin, hrest⟩ := LF.rests ok
    have hcls := LF.cls_of ok hmin hrest
    refine ⟨fun m σ' H' => ∃ j a b x3, m = kr - j ∧ j ≤ kr ∧ σ' = [some (.ref R), some (.ref a), some (.ref b), x3] ∧ Same H H' ∧ H a = none ∧ H' a = some (.lst (natsV (LF.chain rows j))) ∧ H' b = some (.lst (natsV (LF.chain rows (j + 1)))) ∧ H b = none, ⟨kr, 0, p, q, none, rfl, Nat.zero_le _, rfl, s12.trans s3, hp0, s3 _ _ hp, hq, L2.Same.none s12 hqn⟩, ?_⟩
    rintro m σ' H' ⟨j, a, b, x3, rfl, hj, rfl, s', ha0, ha, hb, hb0⟩
    refine ⟨_, rfl, _, rfl, .list ((LF.chain rows (j + 1)).map fun (n : Nat) => PyData.int ((n : Nat) : Int)), .list ((LF.chain rows j).map fun (n : Nat) => PyData.int ((n : Nat) : Int)), ?_, ?_, ?_, ?_, _, rfl, ?_⟩
    · have := dp_ints (K := K) (H := H') ((LF.chain rows (j + 1)).map fun (n : Nat) => ((n : Nat) : Int))
      rw [← natsV_ints, List.map_map] at this
      exact .lst (SqL.of hb) this
    · have := dp_ints (K := K) (H := H') ((LF.chain rows j).map fun (n : Nat) => ((n : Nat) : Int))
      rw [← natsV_ints, List.map_map] at this
      exact .lst (SqL.of ha) this
    · have := ints_shaped ((LF.chain rows (j + 1)).map fun (n : Nat) => ((n : Nat) : Int))
      rw [List.map_map] at this
      exact this
    · have := ints_shaped ((LF.chain rows j).map fun (n : Nat) => ((n : Nat) : Int))
      rw [List.map_map] at this
      exact this
    have heq := ints_eqv ((LF.chain rows (j + 1)).map fun (n : Nat) => ((n : Nat) : Int)) ((LF.chain rows j).map fun (n : Nat) => ((n : Nat) : Int))
    rw [List.map_map, List.map_map] at heq
    have heq' : PyData.eqv (.list ((LF.chain rows (j + 1)).map fun (n : Nat) => PyData.int ((n : Nat) : Int))) (.list ((LF.chain rows j).map fun (n : Nat) => PyData.int ((n : Nat) : Int))) = decide (LF.chain rows (j + 1) = LF.chain rows j) := by
      refine Eq.trans heq ?_
      by_cases e : LF.chain rows (j + 1) = LF.chain rows j
      · rw [decide_eq_true e, decide_eq_true (nats_inj.mpr e)]
      · rw [decide_eq_false e, decide_eq_false (fun z => e (nats_inj.mp z))]
    rw [heq']
    by_cases e : LF.chain rows (j + 1) = LF.chain rows j
    · rw [decide_eq_true e]
      have hjk : j = kr := by
        rcases Nat.lt_or_ge j kr with q | q
        · exact absurd e.symm (hmin j q)
        · omega
      subst hjk
      refine iteF ⟨_, rfl, kk a H' ?_ ha0 s'⟩
      rw [hcls]
      exact ha
    · rw [decide_eq_false e]
      refine iteT ⟨fun σ2 H2' => ∃ a2 b2 x3, σ2 = [some (.ref R), some (.ref a2), some (.ref b2), x3] ∧ Same H H2' ∧ H a2 = none ∧ H2' a2 = some (.lst (natsV (LF.chain rows (j + 1)))) ∧ H2' b2 = some (.lst (natsV (LF.chain rows (j + 1 + 1)))) ∧ H b2 = none, ?_, ?_⟩
      · rintro σ2 H2' ⟨a2, b2, x3', rfl, q1, q2, q3, q4, q5⟩
        have hjk : j < kr := by
          rcases Nat.lt_or_ge j kr with q | q
          · exact q
          · have : j = kr := by omega
            subst this
            exact absurd hrest.symm e
        exact ⟨kr - (j + 1), by omega, j + 1, a2, b2, x3', rfl, hjk, rfl, q1, q2, q3, q4, q5⟩
      · refine ⟨_, rfl, _, rfl, _, rfl, R, b, k, refs, rows, LF.chain rows (j + 1), rfl, hR.up s', hE.imp (fun c r q => s' _ _ q), hb, clen _, ok, hsz, fun q2 H4 hq2 hq2n s4 => ?_⟩
        exact ⟨b, q2, x3, rfl, s'.trans s4, hb0, s4 _ _ hb, hq2, L2.Same.none s' hq2n⟩
end
end PA

set_option maxHeartbeats 8000000
namespace PA
open PySem L2 RZ
open C8 (pss_cut tCut)
def ki (n : Nat) : Key := Sum.inl ((n : Nat) : Int)
theorem ki_inj (a b : Nat) (h : ki a = ki b) : a = b := by
  unfold ki at h
  injection h with h
  omega
/-- the dict of the visited states -/
abbrev ents (o : List Nat) : List (Key × V) := tab ki 0 o
theorem ents_val (o : List Nat) (x : Nat) : valV (ents o) (ki x) = if x ∈ o then some (V.int ((LF.ix o x : Nat) : Int)) else none := by
  have := tab_val (f := ki) ki_inj x o 0
  rw [Nat.zero_add] at this
  exact this
def spRenL : Sp := fun vs H Q _ => ∃ (c L : Addr) (r : Rn) (cs : List Nat), vs = [.ref c, .ref L] ∧ isR H c r ∧ H L = some (.lst (natsV cs)) ∧ r.1 < cs.length ∧ r.2.2.1 < cs.length ∧ ∀ t H', Same H H' → isR H' t (LF.renum (LF.at_ cs) r) → Q (.ref t) H'
def spRenD : Sp := fun vs H Q _ => ∃ (c d : Addr) (r : Rn) (o : List Nat), vs = [.ref c, .ref d] ∧ isR H c r ∧ Rd H d (.dK (ents o)) ∧ r.1 ∈ o ∧ r.2.2.1 ∈ o ∧ ∀ t H', Same H H' → isR H' t (LF.renum (LF.ix o) r) → Q (.ref t) H'
section
variable {P : Program} {w : World} {K : PySem.W.Frag} {mg : Str → Option Value} {base : Heap} {C : Addr}
theorem scRenum : FnScope ["row", "numbers"] ["row", "numbers"] (defScope sRenum) := ⟨rfl, rfl, rfl, by decide +kernel, rfl, by decide +kernel, by decide +kernel⟩
theorem ok_renL {f : Addr} {fd : FuncData} (F : Fun K "_renumbered" "_renumbered" sRenum f fd) : FnOk P w K mg base CX0 1 f fd ["row", "numbers"] spRenL := by
  refine F.ok scRenum (fun vs H Q E h => ?_) (fun cdv A outer s H vs Q E hr h => ?_)
  · obtain ⟨c, L, _, _, rfl, _⟩ := h
    rfl
  · obtain ⟨c, L, r, cs, rfl, hc, hL, h1, h2, kk⟩ := h
    refine ⟨_, pss_one (ps_ret (pe_tup (pa_cons (pe_ix ix_list (pv 1) (pe_ix ix_tup (pv 0) pe_int (fun _ _ => rfl)) (fun _ _ => rfl)) (pa_cons (pe_ix ix_tup (pv 0) pe_int (fun _ _ => rfl)) (pa_cons (pe_ix ix_list (pv 1) (pe_ix ix_tup (pv 0) pe_int (fun _ _ => rfl)) (fun _ _ => rfl)) (pa_cons (pe_ix ix_tup (pv 0) pe_int (fun _ _ => rfl)) pa_nil)))))), ?_⟩
    have hcT : H c = some (.tup (rv (rz r))) := hc
    refine ⟨_, rfl, _, rfl, c, _, _, _, rfl, rfl, SqT.of hcT, rfl, L, _, _, _, rfl, rfl, SqL.of hL, nat_at h1, _, rfl, c, _, _, _, rfl, rfl, SqT.of hcT, rfl, _, rfl, _, rfl, c, _, _, _, rfl, rfl, SqT.of hcT, rfl, L, _, _, _, rfl, rfl, SqL.of hL, nat_at h2, _, rfl, c, _, _, _, rfl, rfl, SqT.of hcT, rfl, by show 4 ≤ sizeLine; decide, fun t ht => ?_⟩
    exact kk t _ (Same.new ht) upd_same
theorem ok_renD {f : Addr} {fd : FuncData} (F : Fun K "_renumbered" "_renumbered" sRenum f fd) : FnOk P w K mg base CX0 1 f fd ["row", "numbers"] spRenD := by
  refine F.ok scRenum (fun vs H Q E h => ?_) (fun cdv A outer s H vs Q E hr h => ?_)
  · obtain ⟨c, L, _, _, rfl, _⟩ := h
    rfl
  · obtain ⟨c, d, r, o, rfl, hc, hd, h1, h2, kk⟩ := h
    have hu := u1 hr.units
    refine ⟨_, pss_one (ps_ret (pe_tup (pa_cons (pe_dget hu (pv 1) (pe_ix ix_tup (pv 0) pe_int (fun _ _ => rfl)) (fun _ _ => rfl)) (pa_cons (pe_ix ix_tup (pv 0) pe_int (fun _ _ => rfl)) (pa_cons (pe_dget hu (pv 1) (pe_ix ix_tup (pv 0) pe_int (fun _ _ => rfl)) (fun _ _ => rfl)) (pa_cons (pe_ix ix_tup (pv 0) pe_int (fun _ _ => rfl)) pa_nil)))))), ?_⟩
    have hcT : H c = some (.tup (rv (rz r))) := hc
    have dg : ∀ x, x ∈ o → DGet H d (.int ((x : Nat) : Int)) (some (V.int ((LF.ix o x : Nat) : Int))) := by
      intro x hx
      have hv := ents_val o x
      rw [if_pos hx] at hv
      exact .inl ⟨ents o, ki x, hd, rfl, hv.symm⟩
    refine ⟨_, rfl, _, rfl, c, _, _, _, rfl, rfl, SqT.of hcT, rfl, d, _, rfl, dg _ h1, _, rfl, c, _, _, _, rfl, rfl, SqT.of hcT, rfl, _, rfl, _, rfl, c, _, _, _, rfl, rfl, SqT.of hcT, rfl, d, _, rfl, dg _ h2, _, rfl, c, _, _, _, rfl, rfl, SqT.of hcT, rfl, by show 4 ≤ sizeLine; decide, fun t ht => ?_⟩
    exact kk t _ (Same.new ht) upd_same
end
end PA

set_option maxHeartbeats 8000000
namespace PA
open PySem L2 RZ
open C8 (pss_cut tCut)
def spMerged (K : PySem.W.Frag) : Sp := fun vs H Q _ => ∃ (R L : Addr) (k : L2.Kind) (refs : List V) (rows : List Rn) (cs : List Nat), vs = [.ref R, .ref L] ∧ Sk K k H R refs ∧ Ea H isR refs rows ∧ H L = some (.lst (natsV cs)) ∧ cs.length = rows.length ∧ LF.TOk rows ∧ rows.length ≤ 3000 ∧
  (∀ i ≤ rows.length, ((rows.zipIdx.take i).foldl (LF.mstep cs) []).length ≤ i) ∧
  ∀ p H' refs', H' p = some (.lst refs') → Ea H' isR refs' (LF.merged rows cs) → H p = none → Same H H' → Q (.ref p) H'
theorem isR.lst {H : Hp} {c D : Addr} {r : Rn} {xs ys : List V} (q : isR H c r) (hD : H D = some (.lst xs)) : isR (upd H D (.lst ys)) c r := isT.lst q hD
section
variable {P : Program} {w : World} {K : PySem.W.Frag} {mg : Str → Option Value} {base : Heap} {C : Addr}
theorem scMerged : FnScope ["rows", "classes", "merged", "state", "row"] ["rows", "classes"] (defScope sMerged) := ⟨rfl, rfl, rfl, by decide +kernel, rfl, by decide +kernel, by decide +kernel⟩
theorem ok_merged {f g : Addr} {fd gd : FuncData} (F : Fun K "_merged" "_merged" sMerged f fd) (T : Txt K mg C) (hen : mg "enumerate" = none) (D : Df K mg "_renumbered" sRenum g gd ["row", "numbers"]) : FnOk P w K mg base CX0 2 f fd ["rows", "classes"] (spMerged K) := by
  have G : FnOk P w K mg base CX0 1 g gd ["row", "numbers"] spRenL := ok_renL D.F
  refine F.ok scMerged (fun vs H Q E h => ?_) (fun cdv A outer s H vs Q E hr h => ?_)
  · obtain ⟨R, L, _, _, _, _, rfl, _⟩ := h
    rfl
  · obtain ⟨R, L, k, refs, rows, cs, rfl, hR, hE, hL, hcs, ok, hsz, hlen, kk⟩ := h
    have hlr : refs.length = rows.length := hE.1
    refine ⟨_, pss_cons (ps_set (i := 2) scMerged.nd rfl (Or.inl rfl) (pe_lst pa_nil))
      (pss_cons (ps_for PassesOwn.never rfl (pi_enumK (by rfl) hen (pa_cons (pv 0) pa_nil)) (pg_tup rfl (pgs_cons (pg_name (i := 3) scMerged.nd rfl (Or.inl rfl)) (pgs_cons (pg_name (i := 4) scMerged.nd rfl (Or.inl rfl)) pgs_nil)))
        (pss_one (ps_if (pt_cmpR op_eq (pe_ix ix_list (pv 1) (pv 3) (fun _ _ => rfl)) (pe_callB call_len_seq (by rfl) T.len_ PySem.boot_len (pa_cons (pv 2) pa_nil)) (nomark _))
          (pss_one (ps_expr (pe_bm PySem.F.plainAttrs_list PySem.F.slot_list_append PySem.F.type_list_append mt_append (pv 2) (pa_cons (pe_call G hr rfl D.M D.F.kp D.B .nil pass0 (pa_cons (pv 4) (pa_cons (pv 1) pa_nil))) pa_nil)))) pss_nil)))
      (pss_one (ps_ret (pv 2)))), ?_⟩
    refine ⟨Nat.zero_le _, fun M hM => ?_⟩
    have sM := Same.new (o := .lst []) hM
    refine ⟨_, rfl, k, R, refs, rfl, hR.up sM, ?_⟩
    refine for_it (walk_e (K := K) (k := k) (a := R) (xs := refs)) (fun i σ' H' => ∃ x3 x4 acc, σ' = [some (.ref R), some (.ref L), some (.ref M), x3, x4] ∧ Same H H' ∧ H' M = some (.lst acc) ∧ Ea H' isR acc ((rows.zipIdx.take i).foldl (LF.mstep cs) [])) ?_ ?_ ?_ ?_
    · exact ⟨none, none, [], rfl, sM, upd_same, by rw [List.take_zero]; exact Ea.nil⟩
    · rintro i σ' H' _ ⟨_, _, _, _, s', _⟩
      exact hR.up s'
    · rintro i x σ' H' _ hi ⟨x3, x4, acc, rfl, s', hm, he⟩ ⟨t, a, b, rfl, ht, rfl, h1, h2⟩
      dsimp only at h1 h2
      cases h1
      obtain ⟨c, r, rfl, hr', hc⟩ := hE.at_ h2
      have st := Same.new (o := .tup [.int (i : Int), .ref c]) ht
      have hL' := st _ _ (s' _ _ hL)
      have hc' : isR (upd H' t (.tup [.int (i : Int), .ref c])) c r := st _ _ (s' _ _ hc)
      have hm' := st _ _ hm
      have he' : Ea (upd H' t (.tup [.int (i : Int), .ref c])) isR acc ((rows.zipIdx.take i).foldl (LF.mstep cs) []) := he.imp fun c' r' q => st _ _ q
      obtain ⟨o1, o2⟩ := ok r (List.mem_of_getElem? hr')
      have hil : i < rows.length := by rw [← hlr]; exact hi
      have hn : (rows.zipIdx.take (i + 1)).foldl (LF.mstep cs) [] = LF.mstep cs ((rows.zipIdx.take i).foldl (LF.mstep cs) []) (r, i) := by
        rw [L2.take_succ' (LF.zip_get hr'), List.foldl_append]
        rfl
      have hal : acc.length = ((rows.zipIdx.take i).foldl (LF.mstep cs) []).length := he.1
      refine ⟨t, _, rfl, SqT.of upd_same, rfl, _, _, rfl, _, _, rfl, rfl, ?_⟩
      refine ⟨_, rfl, _, rfl, L, _, _, _, rfl, rfl, SqL.of hL', nat_at (by rw [hcs]; exact hil), _, rfl, M, _, rfl, .inl (SqL.of hm'), rfl, _, rfl, ifD_2 (fun e => ?_) (fun e => ?_)⟩
      · have e' : LF.at_ cs i = ((rows.zipIdx.take i).foldl (LF.mstep cs) []).length := by
          injection e with e
          omega
        refine ⟨_, rfl, .inl ⟨rfl, _, SqL.of hm'⟩, _, rfl, _, rfl, c, L, r, cs, rfl, hc', hL', by rw [hcs]; exact o1, by rw [hcs]; exact o2, fun u H4 s4 hu4 => ?_⟩
        have hm4 := s4 _ _ hm'
        refine ⟨M, acc, _, rfl, rfl, hm4, ?_, ?_⟩
        · rw [hal]
          exact Nat.lt_of_le_of_lt (Nat.le_trans (hlen i (Nat.le_of_lt hil)) (by omega : i ≤ 3000)) (by decide)
        · refine ⟨_, _, acc ++ [.ref u], rfl, fun c' o z => ?_, upd_same, ?_⟩
          · rw [upd_ne (ne_of_none z hM)]
            exact s4 _ _ (st _ _ (s' _ _ z))
          · rw [hn, show LF.mstep cs ((rows.zipIdx.take i).foldl (LF.mstep cs) []) (r, i) = ((rows.zipIdx.take i).foldl (LF.mstep cs) []) ++ [LF.renum (LF.at_ cs) r] from if_pos e']
            exact Ea.push (he'.imp fun c' r' q => isR.lst (show isR H4 c' r' from s4 _ _ q) hm4) (isR.lst hu4 hm4)
      · have e' : ¬ LF.at_ cs i = ((rows.zipIdx.take i).foldl (LF.mstep cs) []).length := by
          intro z
          exact e (by rw [hal, z])
        refine ⟨_, _, acc, rfl, fun c' o z => st _ _ (s' _ _ z), hm', ?_⟩
        rw [hn, show LF.mstep cs ((rows.zipIdx.take i).foldl (LF.mstep cs) []) (r, i) = ((rows.zipIdx.take i).foldl (LF.mstep cs) []) from if_neg e']
        exact he'
    · rintro σ' H' ⟨x3, x4, acc, rfl, s', hm, he⟩
      have hz : refs.length = rows.zipIdx.length := by simp [hlr]
      rw [hz, List.take_length] at he
      exact ⟨_, rfl, kk M H' acc hm he hM s'⟩
end
end PA

set_option maxHeartbeats 8000000
namespace PA
open PySem L2 RZ
open C8 (pss_cut tCut)
theorem visit_nil (rows : List Rn) (f : Nat) (s : List Nat) : LF.visit rows f [] s = s := by
  cases f <;> rfl
theorem ents_snoc (s : List Nat) (x : Nat) : ents (s ++ [x]) = ents s ++ [(ki x, V.int ((s.length : Nat) : Int))] := by
  have := tab_snoc (f := ki) s 0 x
  rw [Nat.zero_add] at this
  exact this
def spVisit : Sp := fun vs H Q _ => ∃ (M B : Addr) (refs : List V) (rows : List Rn) (b : List Nat), vs = [.ref M, .ref B] ∧ H M = some (.lst refs) ∧ Ea H isR refs rows ∧ H B = some (.lst (natsV b)) ∧ LF.TOk rows ∧ (∀ x ∈ b, x < rows.length) ∧ rows.length ≤ 3000 ∧ b.length ≤ 100 ∧
  ∀ d H', H' d = some (.dK (ents (LF.ord rows b))) → H d = none → Same H H' → Q (.ref d) H'
section
variable {P : Program} {w : World} {K : PySem.W.Frag} {mg : Str → Option Value} {base : Heap} {C : Addr}
theorem scVisit : FnScope ["rows", "starts", "numbers", "waiting", "state"] ["rows", "starts"] (defScope sVisit) := ⟨rfl, rfl, rfl, by decide +kernel, rfl, by decide +kernel, by decide +kernel⟩
theorem ok_visit {f : Addr} {fd : FuncData} (F : Fun K "_visit_numbers" "_visit_numbers" sVisit f fd) (T : Txt K mg C) : FnOk P w K mg base CX0 1 f fd ["rows", "starts"] spVisit := by
  refine F.ok scVisit (fun vs H Q E h => ?_) (fun cdv A outer s H vs Q E hr h => ?_)
  · obtain ⟨M, B, _, _, _, rfl, _⟩ := h
    rfl
  · obtain ⟨M, B, refs, rows, b, rfl, hM, hE, hB, ok, hb, hsz, hb100, kk⟩ := h
    have hu := u1 hr.units
    refine ⟨_, pss_cons (ps_set (i := 2) scVisit.nd rfl (Or.inl rfl) pe_dnewK)
      (pss_cons (ps_set (i := 3) scVisit.nd rfl (Or.inl rfl) (pe_callTy call_list_of (by rfl) T.list_ boot_list' (pa_cons (pv 1) pa_nil)))
      (pss_cons (ps_while PassesOwn.never (pt_truth (pv 3) (fun _ => rfl))
        (pss_cons (ps_set (i := 4) scVisit.nd rfl (Or.inl rfl) (pe_bm PySem.F.plainAttrs_list PySem.F.slot_list_pop PySem.F.type_list_pop mt_popAt (pv 3) (pa_cons pe_int pa_nil)))
        (pss_one (ps_if (pt_cmp (pc_dnotin hu (pv 4) (pv 2)))
          (pss_cons (ps_dput hu (pv 2) (pv 4) (pe_callB call_lenD (by rfl) T.len_ PySem.boot_len (pa_cons (pv 2) pa_nil)) rfl)
          (pss_cons (ps_expr (pe_bm PySem.F.plainAttrs_list PySem.F.slot_list_append PySem.F.type_list_append mt_append (pv 3) (pa_cons (pe_ix ix_tup (pe_ix ix_list (pv 0) (pv 4) (fun _ _ => rfl)) pe_int (fun _ _ => rfl)) pa_nil)))
          (pss_one (ps_expr (pe_bm PySem.F.plainAttrs_list PySem.F.slot_list_append PySem.F.type_list_append mt_append (pv 3) (pa_cons (pe_ix ix_tup (pe_ix ix_list (pv 0) (pv 4) (fun _ _ => rfl)) pe_int (fun _ _ => rfl)) pa_nil)))))) pss_nil))))
      (pss_one (ps_ret (pv 2))))), ?_⟩
    refine fun d hd => ?_
    have sd := Same.new (o := .dK []) hd
    refine ⟨_, rfl, B, _, rfl, .inl (SqL.of (sd _ _ hB)), fun wl hwl => ?_⟩
    have sw := Same.new (o := .lst (natsV b)) hwl
    have hd2 := sw _ _ (show (upd H d (.dK [])) d = some (.dK []) from upd_same)
    refine ⟨fun m σ' H' => ∃ f w s x4, m = f ∧ σ' = [some (.ref M), some (.ref B), some (.ref d), some (.ref wl), x4] ∧ Same H H' ∧ H' d = some (.dK (ents s)) ∧ H' wl = some (.lst (natsV w)) ∧ LF.VOk rows w s ∧ LF.need rows w s ≤ f ∧ f ≤ 10000 ∧ LF.visit rows f w s = LF.ord rows b, ⟨b.length + 2 * rows.length, _, b, [], none, rfl, rfl, sd.trans sw, hd2, upd_same, ⟨ok, hb, fun x hx => (List.not_mem_nil hx).elim, List.nodup_nil⟩, by unfold LF.need; simp, by omega, rfl⟩, ?_⟩
    rintro m σ' H' ⟨f, w', s', x4, rfl, rfl, sm, hdd, hww, v, hnd, hfb, hv⟩
    have hwl0 : H wl = none := L2.Same.none sd hwl
    cases w' with
    | nil =>
      rw [visit_nil] at hv
      refine ⟨_, rfl, false, .inl ⟨_, SqL.of hww, rfl⟩, iteF ⟨_, rfl, kk d H' ?_ hd sm⟩⟩
      rw [← hv]
      exact hdd
    | cons x w1 =>
      obtain ⟨f, rfl⟩ : ∃ f', m = f' + 1 := by
        cases m with
        | zero => unfold LF.need at hnd; simp at hnd
        | succ f' => exact ⟨f', rfl⟩
      have hxr : x < rows.length := v.hw x List.mem_cons_self
      have hr' : rows[x]? = some rows[x] := List.getElem?_eq_getElem hxr
      have hwl1 : w1.length ≤ 10000 := by
        unfold LF.need at hnd
        rw [List.length_cons] at hnd
        omega
      have hpop : (natsV (x :: w1)).eraseIdx 0 = natsV w1 := rfl
      refine ⟨_, rfl, true, .inl ⟨_, SqL.of hww, rfl⟩, iteT ⟨fun σ2 H2 => ∃ w s x4, σ2 = [some (.ref M), some (.ref B), some (.ref d), some (.ref wl), x4] ∧ Same H H2 ∧ H2 d = some (.dK (ents s)) ∧ H2 wl = some (.lst (natsV w)) ∧ LF.VOk rows w s ∧ LF.need rows w s ≤ f ∧ LF.visit rows f w s = LF.ord rows b, ?_, ?_⟩⟩
      · rintro σ2 H2 ⟨w2, s2, x4', rfl, q1, q2, q3, q4, q5, q6⟩
        exact ⟨f, Nat.lt_succ_self f, f, w2, s2, x4', rfl, rfl, q1, q2, q3, q4, q5, by omega, q6⟩
      refine ⟨_, rfl, .inl ⟨rfl, _, SqL.of hww⟩, wl, _, 0, 0, .int ((x : Nat) : Int), rfl, rfl, hww, by decide, by decide, (ixN_seq (Evl.ixN_nat (j := 0) (by simp [natsV]))).1, rfl, ?_⟩
      rw [hpop]
      have nwd : d ≠ wl := ne_of hdd hww (by intro z; cases z)
      have hdd2 : (upd H' wl (.lst (natsV w1))) d = some (.dK (ents s')) := by rw [upd_ne nwd]; exact hdd
      have sm2 : Same H (upd H' wl (.lst (natsV w1))) := fun c o z => by rw [upd_ne (ne_of_none z hwl0)]; exact sm _ _ z
      have hww2 : (upd H' wl (.lst (natsV w1))) wl = some (.lst (natsV w1)) := upd_same
      generalize upd H' wl (.lst (natsV w1)) = H3 at hdd2 sm2 hww2
      refine ⟨_, rfl, _, rfl, d, _, rfl, DGet.k (k := ki x) hdd2, _, rfl, ?_⟩
      rw [ents_val]
      by_cases hm : x ∈ s'
      · rw [if_pos hm]
        rw [LF.visit_old hm] at hv
        refine iteF ⟨w1, s', _, rfl, sm2, hdd2, hww2, v.old, ?_, hv⟩
        unfold LF.need at hnd ⊢
        rw [List.length_cons] at hnd
        omega
      · rw [if_neg hm]
        rw [LF.visit_new hm hr'] at hv
        have hval : valV (ents s') (ki x) = none := by rw [ents_val, if_neg hm]
        have hroom := v.room hm
        have hnew := LF.need_new (r := rows[x]) v hm
        obtain ⟨c, hxc, hcc⟩ := hE.get hr'
        refine iteT ?_
        have hle : (ents s').length = s'.length := tab_len _ _
        have hput := DPut.k (k := ki x) (v := V.int ((ents s').length : Int)) hdd2 (by rw [hle]; exact Nat.lt_of_lt_of_le hroom (Nat.le_trans hsz (by decide)))
        rw [putK_new _ hval, hle, ← ents_snoc] at hput
        refine ⟨_, rfl, d, _, rfl, hdd2, _, rfl, _, rfl, d, _, rfl, by rw [hle]; exact hput, ?_⟩
        have hdd4 : (upd H3 d (.dK (ents (s' ++ [x])))) d = some (.dK (ents (s' ++ [x]))) := upd_same
        have hww4 : (upd H3 d (.dK (ents (s' ++ [x])))) wl = some (.lst (natsV w1)) := by rw [upd_ne nwd.symm]; exact hww2
        have sm4 : Same H (upd H3 d (.dK (ents (s' ++ [x])))) := fun c o z => by rw [upd_ne (ne_of_none z hd)]; exact sm2 _ _ z
        generalize upd H3 d (.dK (ents (s' ++ [x]))) = H4 at hdd4 hww4 sm4
        have hsz1 : (natsV w1).length < sizeLine := by
          unfold natsV
          rw [List.length_map]
          exact Nat.lt_of_le_of_lt hwl1 (by decide)
        refine ⟨_, rfl, .inl ⟨rfl, _, SqL.of hww4⟩, _, rfl, _, rfl, M, _, _, _, rfl, rfl, SqL.of (sm4 _ _ hM), atI_nat hxc, c, _, 0, _, rfl, rfl, SqT.of (sm4 _ _ hcc), rfl, wl, _, _, rfl, rfl, hww4, hsz1, ?_⟩
        have e1 : natsV w1 ++ [V.int ((rows[x].1 : Nat) : Int)] = natsV (w1 ++ [rows[x].1]) := by unfold natsV; simp
        have hww5 : (upd H4 wl (.lst (natsV w1 ++ [V.int ((rows[x].1 : Nat) : Int)]))) wl = some (.lst (natsV (w1 ++ [rows[x].1]))) := by rw [e1]; exact upd_same
        have sm5 : Same H (upd H4 wl (.lst (natsV w1 ++ [V.int ((rows[x].1 : Nat) : Int)]))) := fun c o z => by rw [upd_ne (ne_of_none z hwl0)]; exact sm4 _ _ z
        have hdd5 : (upd H4 wl (.lst (natsV w1 ++ [V.int ((rows[x].1 : Nat) : Int)]))) d = some (.dK (ents (s' ++ [x]))) := by rw [upd_ne nwd]; exact hdd4
        refine ⟨_, rfl, .inl ⟨rfl, _, SqL.of hww5⟩, _, rfl, _, rfl, M, _, _, _, rfl, rfl, SqL.of (sm5 _ _ hM), atI_nat hxc, c, _, 2, _, rfl, rfl, SqT.of (sm5 _ _ hcc), rfl, wl, _, _, rfl, rfl, hww5, ?_, ?_⟩
        · unfold natsV
          rw [List.length_map, List.length_append]
          exact Nat.lt_of_le_of_lt (Nat.add_le_add_right hwl1 _) (by show 10000 + 1 < sizeLine; decide)
        have e2 : natsV (w1 ++ [rows[x].1]) ++ [V.int ((rows[x].2.2.1 : Nat) : Int)] = natsV (w1 ++ [rows[x].1, rows[x].2.2.1]) := by unfold natsV; simp
        refine ⟨w1 ++ [rows[x].1, rows[x].2.2.1], s' ++ [x], _, rfl, fun c o z => by rw [upd_ne (ne_of_none z hwl0)]; exact sm5 _ _ z, by rw [upd_ne nwd]; exact hdd5, by rw [← e2]; exact upd_same, v.new hm hr', by omega, hv⟩
end
end PA

set_option maxHeartbeats 8000000
namespace PA
open PySem L2 RZ
open C8 (pss_cut tCut)
theorem walk_kx {d : Addr} {o : Obj} {kvs : List (Key × V)} : Walk (Itk d o kvs) kvs.length (fun H => H d = some (.frz o (.dK kvs))) (YAt (kvs.map fun x => kV x.1)) := by
  have wk := walk_keys (d := d) (o := o) (kvs := kvs)
  refine ⟨wk.1, wk.2, fun i H x H' hi q y => ?_⟩
  obtain ⟨rfl, k, v, e, rfl⟩ := wk.3 i H x H' hi q y
  refine ⟨rfl, ?_⟩
  show (kvs.map fun x => kV x.1)[i]? = some (kV k)
  rw [List.getElem?_map, e]
  rfl
theorem ents_keys (o : List Nat) : (ents o).map (fun x => kV x.1) = natsV o := by
  unfold ents tab natsV
  rw [List.map_map]
  refine List.ext_getElem? fun i => ?_
  rw [List.getElem?_map, List.getElem?_map, List.getElem?_zipIdx]
  cases o[i]? <;> rfl
def spLeastF (K : PySem.W.Frag) : Sp := fun vs H Q _ => ∃ (R S : Addr) (k k2 : L2.Kind) (refs : List V) (rows : List Rn) (st : List Nat), vs = [.ref R, .ref S] ∧ Sk K k H R refs ∧ Ea H isR refs rows ∧ Sk K k2 H S (natsV st) ∧ LF.TOk rows ∧ (∀ x ∈ st, x < rows.length) ∧ rows.length ≤ 3000 ∧ st.length ≤ 100 ∧
  ∀ t T1 T2 refs' H', H' t = some (.tup [.ref T1, .ref T2]) → H' T1 = some (.tup refs') → Ea H' isR refs' (LF.lf rows st).1 → H' T2 = some (.tup (natsV (LF.lf rows st).2)) → Same H H' → Q (.ref t) H'
/-- what the least form reaches -/
structure LibF (K : PySem.W.Frag) (mg : Str → Option Value) (f1 f2 f3 f4 f5 f6 f7 : Addr) (d1 d2 d3 d4 d5 d6 d7 : FuncData) : Prop where
  hen : mg "enumerate" = none
  F1 : Df K mg "least_form" sLeastF f1 d1 ["rows", "starts"]
  F2 : Df K mg "_classes" sClasses f2 d2 ["rows"]
  F3 : Df K mg "_split" sSplit f3 d3 ["rows", "classes"]
  F4 : Df K mg "_numbered" sNumbered f4 d4 ["keys"]
  F5 : Df K mg "_merged" sMerged f5 d5 ["rows", "classes"]
  F6 : Df K mg "_renumbered" sRenum f6 d6 ["row", "numbers"]
  F7 : Df K mg "_visit_numbers" sVisit f7 d7 ["rows", "starts"]
section
variable {P : Program} {w : World} {K : PySem.W.Frag} {mg : Str → Option Value} {base : Heap} {C f1 f2 f3 f4 f5 f6 f7 : Addr} {d1 d2 d3 d4 d5 d6 d7 : FuncData}
theorem scLeastF : FnScope ["rows", "starts", "classes", "merged", "begins", "numbers", "least_rows", "state"] ["rows", "starts"] (defScope sLeastF) := ⟨rfl, rfl, rfl, by decide +kernel, rfl, by decide +kernel, by decide +kernel⟩
theorem ok_leastF (T : Txt K mg C) (L : LibF K mg f1 f2 f3 f4 f5 f6 f7 d1 d2 d3 d4 d5 d6 d7) : FnOk P w K mg base CX0 4 f1 d1 ["rows", "starts"] (spLeastF K) := by
  have G2 : FnOk P w K mg base CX0 3 f2 d2 ["rows"] (spClasses K) := ok_classes L.F2.F T L.hen L.F4 L.F3
  have G5 : FnOk P w K mg base CX0 2 f5 d5 ["rows", "classes"] (spMerged K) := ok_merged L.F5.F T L.hen L.F6
  have G6 : FnOk P w K mg base CX0 1 f6 d6 ["row", "numbers"] spRenD := ok_renD L.F6.F
  have G7 : FnOk P w K mg base CX0 1 f7 d7 ["rows", "starts"] spVisit := ok_visit L.F7.F T
  refine L.F1.F.ok scLeastF (fun vs H Q E h => ?_) (fun cdv A outer s H vs Q E hr h => ?_)
  · obtain ⟨R, S, _, _, _, _, _, rfl, _⟩ := h
    rfl
  · obtain ⟨R, S, k, k2, refs, rows, st, rfl, hR, hE, hS, ok, hst, hsz, hs100, kk⟩ := h
    have hr2 : Room 2 _ := hr.mono (by decide)
    have hr1 : Room 1 _ := hr.mono (by decide)
    have hu := u1 hr.units
    refine ⟨_, pss_cons (ps_set (i := 2) scLeastF.nd rfl (Or.inr rfl) (pe_call G2 hr rfl L.F2.M L.F2.F.kp L.F2.B .nil pass0 (pa_cons (pv 0) pa_nil)))
      (pss_cons (ps_set (i := 3) scLeastF.nd rfl (Or.inr rfl) (pe_call G5 hr2 rfl L.F5.M L.F5.F.kp L.F5.B .nil pass0 (pa_cons (pv 0) (pa_cons (pv 2) pa_nil))))
      (pss_cons (ps_setLc (i := 4) (own := [("state", 7)]) (g := gName 7) (tt := tYes) (by rfl) scLeastF.nd rfl rfl (sw_true rfl rfl rfl (by decide +kernel)) (pi_sq (pv 1)) (blkOk_by (N := ["rows", "starts", "classes", "merged", "begins", "numbers", "least_rows", "state"]) (sc := defScope sLeastF) (by decide +kernel))
          (fun _ _ _ _ _ => pg_name (i := 7) scLeastF.nd rfl (Or.inl rfl)) (fun _ _ _ _ _ => pts_nil) (fun _ _ _ _ _ => pe_ix (ix_listK (K := K) rfl) (pv 2) (pv 7) (fun _ _ => rfl)))
      (pss_cons (ps_set (i := 5) scLeastF.nd rfl (Or.inr rfl) (pe_call G7 hr1 rfl L.F7.M L.F7.F.kp L.F7.B .nil pass0 (pa_cons (pv 3) (pa_cons (pv 4) pa_nil))))
      (pss_cons (ps_set (i := 6) scLeastF.nd rfl (Or.inl rfl) (pe_callTy call_tuple_of (by rfl) T.tup_ boot_tuple' (pa_cons (pe_lock (pe_lc (own := [("state", 7)]) (g := gName 7) (tt := tYes) (by rfl) scLeastF.nd (pi_keys (pv 5)) (blkOk_by (N := ["rows", "starts", "classes", "merged", "begins", "numbers", "least_rows", "state"]) (sc := defScope sLeastF) (by decide +kernel))
          (fun _ _ _ _ _ => pg_name (i := 7) scLeastF.nd rfl (Or.inl rfl)) (fun _ _ _ _ _ => pts_nil) (fun _ _ _ _ _ => pe_call G6 hr1 rfl L.F6.M L.F6.F.kp L.F6.B .nil pass0 (pa_cons (pe_ix (ix_listK (K := K) rfl) (pv 3) (pv 7) (fun _ _ => rfl)) (pa_cons (pv 5) pa_nil))))) pa_nil)))
      (pss_one (ps_ret (pe_tup (pa_cons (pv 6) (pa_cons (pe_callTy call_tuple_of (by rfl) T.tup_ boot_tuple' (pa_cons (pe_lc (own := [("state", 7)]) (g := gName 7) (tt := tYes) (by rfl) scLeastF.nd (pi_list (pv 4)) (blkOk_by (N := ["rows", "starts", "classes", "merged", "begins", "numbers", "least_rows", "state"]) (sc := defScope sLeastF) (by decide +kernel))
          (fun _ _ _ _ _ => pg_name (i := 7) scLeastF.nd rfl (Or.inl rfl)) (fun _ _ _ _ _ => pts_nil) (fun _ _ _ _ _ => pe_dget hu (pv 5) (pv 7) (fun _ _ => rfl))) pa_nil)) pa_nil))))))))), ?_⟩
    have mok := LF.mg_ok ok
    have bl := LF.b_lt hst
    generalize hbd : st.map (LF.at_ (LF.cls rows)) = b at bl
    have hord := LF.ord_end mok bl
    have clen : (LF.cls rows).length = rows.length := LF.cls_len
    have mle : (LF.mg rows).length ≤ rows.length := LF.mg_le
    have hlf : LF.lf rows st = (LF.laid (LF.mg rows) (LF.ord (LF.mg rows) b), b.map (LF.ix (LF.ord (LF.mg rows) b))) := by
      unfold LF.lf
      rw [hbd]
    have hblen : b.length = st.length := by rw [← hbd, List.length_map]
    generalize ho : LF.ord (LF.mg rows) b = o at hord hlf
    have hclo := hord.closed (fun x hx => (List.not_mem_nil hx).elim)
    refine ⟨_, rfl, R, k, refs, rows, rfl, hR, hE, ok, hsz, fun cl H1 hcl hcl0 s1 => ?_⟩
    refine ⟨_, rfl, _, rfl, R, cl, k, refs, rows, LF.cls rows, rfl, hR.up s1, hE.imp (fun c r q => s1 _ _ q), hcl, clen, ok, hsz, fun i hi => ?_, fun M H2 mrefs hM hME hM0 s2 => ?_⟩
    · rw [(LF.merged_pre LF.cls_numb clen i hi).1]
      exact Nat.le_trans (LF.uniq_len _) (by rw [List.length_take]; omega)
    have s12 := s1.trans s2
    refine ⟨k2, _, rfl, S, rfl, ⟨_, hS.up s12⟩, fun Bd hBd => ?_⟩
    refine lc_same (xs := natsV st) (walk_k (k := k2)) (by unfold natsV; rw [List.length_map]; exact Nat.le_trans hs100 (by decide)) hBd (fun H' s' => (hS.up s12).up s') (natsV b) (by unfold natsV; rw [List.length_map, List.length_map, hblen]) (fun i x y H' Φ Ψ hx hy sm kf => ?_) fun H3 s3 hB3 => ?_
    · unfold natsV at hx hy
      rw [List.getElem?_map, Option.map_eq_some_iff] at hx
      obtain ⟨z, hz, rfl⟩ := hx
      rw [← hbd, List.getElem?_map, List.getElem?_map, hz] at hy
      cases hy
      refine ⟨rfl, ?_⟩
      dsimp only [tYes]
      rw [if_pos rfl]
      exact ⟨_, rfl, _, rfl, cl, _, _, _, rfl, rfl, SqL.of (sm _ _ (s2 _ _ hcl)), nat_at (by rw [clen]; exact hst z (List.mem_of_getElem? hz)), kf H' fun _ _ e => e⟩
    have hM3 := s3 _ _ hM
    have hE3 : Ea H3 isR mrefs (LF.mg rows) := hME.imp fun c r q => s3 _ _ q
    refine ⟨_, rfl, _, rfl, M, Bd, mrefs, LF.mg rows, b, rfl, hM3, hE3, hB3, mok, bl, by omega, by omega, fun d H4 hd4 hd0 s4 => ?_⟩
    rw [ho] at hd4
    have hM4 := s4 _ _ hM3
    refine ⟨d, _, hd4, trivial, fun od => ⟨_, rfl, d, od, rfl, .inl ⟨ents o, upd_same, fun Dd hD => ?_⟩⟩⟩
    have hlo : o.length ≤ (LF.mg rows).length := LF.few _ hord.nd hord.lt
    have frz0 : (upd H4 d (.frz od (.dK (ents o)))) d = some (.frz od (.dK (ents o))) := upd_same
    have nMd : M ≠ d := ne_of hM4 hd4 (by intro z; cases z)
    have mt : ∀ c o', H4 c = some o' → c ≠ d → (upd H4 d (.frz od (.dK (ents o)))) c = some o' := fun c o' e hc => by rw [upd_ne hc]; exact e
    have hMf := mt _ _ hM4 nMd
    have hEf : Ea (upd H4 d (.frz od (.dK (ents o)))) isR mrefs (LF.mg rows) := hE3.imp fun c r q => mt _ _ (s4 _ _ q) (ne_of (H := H4) (s4 _ _ q) hd4 (by intro z; cases z))
    have hEv : ∀ c o', H4 c = some o' → c ≠ d → (upd H4 d (.frz od (.dK (ents o)))) c = some o' := mt
    generalize hFz : upd H4 d (.frz od (.dK (ents o))) = Hf at hD frz0 hMf hEf hEv
    have hlg : (LF.laid (LF.mg rows) o).length = o.length := LF.laid_len _ hord.lt
    refine lc_acc (walk_kx (d := d) (o := od) (kvs := ents o)) (by rw [tab_len]; exact Nat.le_trans (by omega : o.length ≤ 3000) (by decide)) hD (fun H' s' => s' _ _ frz0) (fun i acc H' => Ea H' isR acc ((LF.laid (LF.mg rows) o).take i)) (fun i acc H' e => by rw [e.1, List.length_take]; omega) (by rw [List.take_zero]; exact Ea.nil) (fun i x H' acc Φ Ψ hi hx sm hd' he kf => ?_) fun H5 acc s5 hd5 he5 => ?_
    · rw [ents_keys] at hx
      unfold natsV at hx
      rw [List.getElem?_map, Option.map_eq_some_iff] at hx
      obtain ⟨z, hz, rfl⟩ := hx
      have hzm := List.mem_of_getElem? hz
      have hzl := hord.lt z hzm
      have hr' : (LF.mg rows)[z]? = some (LF.mg rows)[z] := List.getElem?_eq_getElem hzl
      obtain ⟨c, hxc, hcc⟩ := hEf.get hr'
      obtain ⟨q1, q2⟩ := hclo z hzm _ hr'
      refine ⟨rfl, ?_⟩
      dsimp only [tYes]
      rw [if_pos rfl]
      refine ⟨_, rfl, _, rfl, M, _, _, _, rfl, rfl, SqL.of (sm _ _ hMf), atI_nat hxc, _, rfl, c, d, _, o, rfl, sm _ _ hcc, .inr ⟨od, sm _ _ frz0⟩, q1, q2, fun t H6 s6 ht6 => kf _ H6 s6 (s6 _ _ hd') fun H7 h7 b1 b2 => ?_⟩
      have hg : (LF.laid (LF.mg rows) o)[i]? = some (LF.renum (LF.ix o) (LF.mg rows)[z]) := by
        unfold LF.laid
        rw [LF.laid_get _ hord.lt, hz]
        simp [hr']
      rw [L2.take_succ' hg]
      exact Ea.push (he.imp fun c' r' q => b1 _ _ (ne_of (s6 _ _ q) (s6 _ _ hd') (by intro z; cases z)) (s6 _ _ q)) (b1 _ _ (ne_of ht6 (s6 _ _ hd') (by intro z; cases z)) ht6)
    rw [tab_len, ← hlg, List.take_length] at he5
    refine ⟨s5 _ _ frz0, ?_⟩
    have hdn : H4 Dd = none := by
      by_cases e : Dd = d
      · rw [e] at hD
        rw [frz0] at hD
        cases hD
      · rw [← hFz, upd_ne e] at hD
        exact hD
    have nDd : Dd ≠ d := fun e => by rw [e, hd4] at hdn; cases hdn
    have s45 : Same H4 (upd H5 d (.dK (ents o))) := fun c o' e => by
      by_cases hc : c = d
      · subst hc
        rw [hd4] at e
        cases e
        exact upd_same
      · rw [upd_ne hc]
        exact s5 _ _ (hEv _ _ e hc)
    have hDd5 : (upd H5 d (.dK (ents o))) Dd = some (.lst acc) := by rw [upd_ne nDd]; exact hd5
    have he6 : Ea (upd H5 d (.dK (ents o))) isR acc (LF.laid (LF.mg rows) o) := he5.imp fun c r q => by
      have : H5 c = some (.tup (rv (rz r))) := q
      show (upd H5 d (.dK (ents o))) c = some (.tup (rv (rz r)))
      rw [upd_ne (ne_of this (s5 _ _ frz0) (by intro z; cases z))]
      exact this
    have hd6 : (upd H5 d (.dK (ents o))) d = some (.dK (ents o)) := upd_same
    generalize upd H5 d (.dK (ents o)) = H6 at s45 hDd5 he6 hd6
    refine ⟨Dd, _, rfl, .inl ⟨SqL.of hDd5, fun T1 hT1 => ?_⟩⟩
    have e1 := Same.new (o := .tup acc) hT1
    have hB6 := e1 _ _ (s45 _ _ (s4 _ _ hB3))
    have hT11 : (upd H6 T1 (.tup acc)) T1 = some (.tup acc) := upd_same
    have he7 : Ea (upd H6 T1 (.tup acc)) isR acc (LF.laid (LF.mg rows) o) := he6.imp fun c r q => e1 _ _ q
    have hd7 := e1 _ _ hd6
    have s47 := s45.trans e1
    generalize upd H6 T1 (.tup acc) = H7 at hB6 hT11 he7 hd7 s47
    refine ⟨_, rfl, _, rfl, Bd, rfl, ⟨_, SqL.of hB6⟩, fun De hDe => ?_⟩
    refine lc_same (xs := natsV b) (walk_l (K := K) (a := Bd) (xs := natsV b)) (by unfold natsV; rw [List.length_map, hblen]; exact Nat.le_trans hs100 (by decide)) hDe (fun H' s' => SqL.of (s' _ _ hB6)) (natsV (b.map (LF.ix o))) (by unfold natsV; simp) (fun i x y H' Φ Ψ hx hy sm kf => ?_) fun H8 s8 hd8 => ?_
    · unfold natsV at hx hy
      rw [List.getElem?_map, Option.map_eq_some_iff] at hx
      obtain ⟨z, hz, rfl⟩ := hx
      rw [List.getElem?_map, List.getElem?_map, hz] at hy
      cases hy
      have hzo := hord.all z (List.mem_of_getElem? hz)
      have hv := ents_val o z
      rw [if_pos hzo] at hv
      refine ⟨rfl, ?_⟩
      dsimp only [tYes]
      rw [if_pos rfl]
      exact ⟨_, rfl, _, rfl, d, _, rfl, .inl ⟨ents o, ki z, .inl (sm _ _ hd7), rfl, hv.symm⟩, kf H' fun _ _ e => e⟩
    refine ⟨De, _, rfl, .inl ⟨SqL.of hd8, fun T2 hT2 => ⟨by show 2 ≤ sizeLine; decide, fun tp htp => ?_⟩⟩⟩
    have e2 := Same.new (o := .tup (natsV (b.map (LF.ix o)))) hT2
    have e3 := Same.new (o := .tup [.ref T1, .ref T2]) htp
    have e23 := s8.trans (e2.trans e3)
    refine kk tp T1 T2 acc _ upd_same (e23 _ _ hT11) ?_ ?_ ((s12.trans s3).trans ((s4.trans s47).trans e23))
    · rw [hlf]
      exact he7.imp fun c r q => e23 _ _ q
    · rw [hlf]
      exact e3 _ _ upd_same
end
end PA

/-! the walk over all pairs of states that come: it tells two tables apart -/
namespace LF
variable {L : Type} [DecidableEq L]
def fl (r : Row L) (b : Bool) : L := if b = true then r.2.2.2 else r.2.1
def nx (r : Row L) (b : Bool) : Nat := if b = true then r.2.2.1 else r.1
def Ok2 (A B : List (Row L)) (sn : List (Nat × Nat)) (p : Nat × Nat) (b : Bool) : Prop := ∀ r r', A[p.1]? = some r → B[p.2]? = some r' → fl r b = fl r' b ∧ (nx r b, nx r' b) ∈ sn
structure UI (A B : List (Row L)) (S : List (Nat × Nat)) (at' : Nat) (wt sn : List (Nat × Nat)) : Prop where
  rng : ∀ p ∈ wt, p.1 < A.length ∧ p.2 < B.length
  snd : (∀ p ∈ S, Alk A p.1 B p.2) → ∀ p ∈ wt, Alk A p.1 B p.2
  sub : ∀ p ∈ sn, p ∈ wt
  fro : ∀ p ∈ S, p ∈ wt
  nd : sn.Nodup
  len : wt.length = S.length + sn.length
  don : ∀ i < at', ∀ p, wt[i]? = some p → ∀ b, Ok2 A B sn p b
variable {A B : List (Row L)} {S wt sn : List (Nat × Nat)} {at' : Nat}
theorem nx_lt (oA : TOk A) {a : Nat} {r : Row L} (h : A[a]? = some r) (b : Bool) : nx r b < A.length := by
  have := oA r (List.mem_of_getElem? h)
  unfold nx
  split
  · exact this.2
  · exact this.1
theorem UI.start (hS : ∀ p ∈ S, p.1 < A.length ∧ p.2 < B.length) : UI A B S 0 S [] :=
  ⟨hS, fun h => h, (by intro p hp; cases hp), fun p hp => hp, List.nodup_nil, by simp, fun i hi => absurd hi (Nat.not_lt_zero _)⟩
theorem alk_nx {p : Nat × Nat} {r r' : Row L} (h : Alk A p.1 B p.2) (hr : A[p.1]? = some r) (hr' : B[p.2]? = some r') (b : Bool) : fl r b = fl r' b ∧ Alk A (nx r b) B (nx r' b) := by
  refine ⟨?_, fun w => ?_⟩
  · have := h [b]
    rw [out_cons hr, out_cons hr'] at this
    injection this with this
    injection this
  · have := h (b :: w)
    rw [out_cons hr, out_cons hr'] at this
    injection this
theorem UI.push (u : UI A B S at' wt sn) (oA : TOk A) (oB : TOk B) (ha : at' < wt.length) {p : Nat × Nat} (hp : p ∈ wt) {r r' : Row L} (hr : A[p.1]? = some r) (hr' : B[p.2]? = some r') (b : Bool) (h : ¬ (nx r b, nx r' b) ∈ sn) : UI A B S at' (wt ++ [(nx r b, nx r' b)]) (sn ++ [(nx r b, nx r' b)]) := by
  refine ⟨fun q hq => ?_, fun g q hq => ?_, fun q hq => ?_, fun q hq => List.mem_append_left _ (u.fro q hq), ?_, ?_, fun i hi q hq c => ?_⟩
  · rcases List.mem_append.mp hq with hq | hq
    · exact u.rng q hq
    · cases List.mem_singleton.mp hq
      exact ⟨nx_lt oA hr b, nx_lt oB hr' b⟩
  · rcases List.mem_append.mp hq with hq | hq
    · exact u.snd g q hq
    · cases List.mem_singleton.mp hq
      exact (alk_nx (u.snd g p hp) hr hr' b).2
  · rcases List.mem_append.mp hq with hq | hq
    · exact List.mem_append_left _ (u.sub q hq)
    · exact List.mem_append_right _ hq
  · rw [List.nodup_append]
    refine ⟨u.nd, (by simp), fun x hx y hy => ?_⟩
    cases List.mem_singleton.mp hy
    rintro rfl
    exact h hx
  · rw [List.length_append, List.length_append, u.len]
    simp [Nat.add_assoc]
  · rw [List.getElem?_append_left (by omega)] at hq
    intro s s' hs hs'
    obtain ⟨h1, h2⟩ := u.don i hi q hq c s s' hs hs'
    exact ⟨h1, List.mem_append_left _ h2⟩
theorem UI.next (u : UI A B S at' wt sn) {p : Nat × Nat} (hp : wt[at']? = some p) (h : ∀ b, Ok2 A B sn p b) : UI A B S (at' + 1) wt sn :=
  ⟨u.rng, u.snd, u.sub, u.fro, u.nd, u.len, fun i hi q hq => by
    by_cases e : i = at'
    · subst e
      rw [hp] at hq
      cases hq
      exact h
    · exact u.don i (by omega) q hq⟩
theorem UI.done (u : UI A B S wt.length wt sn) : ∀ p ∈ S, Alk A p.1 B p.2 := by
  have all : ∀ (w : List Bool) (p : Nat × Nat), p ∈ wt → out A p.1 w = out B p.2 w := by
    intro w
    induction w with
    | nil => intro p _; simp [out]
    | cons b w ih =>
      intro p hp
      obtain ⟨i, hi, hi'⟩ := List.getElem_of_mem hp
      obtain ⟨h1, h2⟩ := u.rng p hp
      have hr := List.getElem?_eq_getElem h1
      have hr' := List.getElem?_eq_getElem h2
      obtain ⟨q1, q2⟩ := u.don i hi p (by rw [List.getElem?_eq_getElem hi, hi']) b _ _ hr hr'
      rw [out_cons hr, out_cons hr']
      have := ih _ (u.sub _ q2)
      unfold nx at this
      unfold fl at q1
      rw [q1, this]
  exact fun p hp w => all w p (u.fro p hp)
theorem UI.differ (u : UI A B S at' wt sn) {p : Nat × Nat} (hp : p ∈ wt) {r r' : Row L} (hr : A[p.1]? = some r) (hr' : B[p.2]? = some r') (b : Bool) (h : fl r b ≠ fl r' b) : ¬ ∀ p ∈ S, Alk A p.1 B p.2 :=
  fun g => h (alk_nx (u.snd g p hp) hr hr' b).1
theorem UI.size (u : UI A B S at' wt sn) : wt.length ≤ S.length + A.length * B.length := by
  rw [u.len]
  refine Nat.add_le_add_left ?_ _
  have nd : (sn.map fun p => p.1 * B.length + p.2).Nodup := by
    have hr : ∀ p ∈ sn, p.2 < B.length := fun p hp => (u.rng p (u.sub p hp)).2
    have : ∀ {l : List (Nat × Nat)}, l.Nodup → (∀ p ∈ l, p.2 < B.length) → (l.map fun p => p.1 * B.length + p.2).Nodup := by
      intro l
      induction l with
      | nil => intro _ _; exact List.nodup_nil
      | cons p l ih =>
        intro n g
        rw [List.nodup_cons] at n
        rw [List.map_cons, List.nodup_cons]
        refine ⟨fun z => ?_, ih n.2 fun q hq => g q (List.mem_cons_of_mem _ hq)⟩
        obtain ⟨q, hq, e⟩ := List.mem_map.mp z
        have g1 := g p (List.mem_cons_self ..)
        have g2 := g q (List.mem_cons_of_mem _ hq)
        have e2 : q.2 = p.2 := by
          have := congrArg (· % B.length) e
          simpa [Nat.mul_add_mod', Nat.mod_eq_of_lt g1, Nat.mod_eq_of_lt g2] using this
        have e1 : q.1 = p.1 := by
          rw [e2] at e
          have : q.1 * B.length = p.1 * B.length := by omega
          exact Nat.eq_of_mul_eq_mul_right (by omega) this
        have : q = p := by
          cases q
          cases p
          simp only at e1 e2
          rw [e1, e2]
        rw [this] at hq
        exact n.1 hq
    exact this u.nd hr
  have := few (A.length * B.length) nd fun x hx => by
    obtain ⟨p, hp, rfl⟩ := List.mem_map.mp hx
    obtain ⟨g1, g2⟩ := u.rng p (u.sub p hp)
    have : (p.1 + 1) * B.length ≤ A.length * B.length := Nat.mul_le_mul_right _ g1
    rw [Nat.add_mul] at this
    omega
  rw [List.length_map] at this
  exact this
end LF

set_option maxHeartbeats 8000000
namespace PA
open PySem L2 RZ
open C8 (pss_cut tCut)
abbrev sAft : Stmt := top 48
abbrev sUnlike : Stmt := top 49
abbrev nb (r : Rn) (b : Bool) : List V := [.int ((LF.nx r b : Nat) : Int), .bl (LF.fl r b)]
def spAft (K : PySem.W.Frag) : Sp := fun vs H Q _ => ∃ (c : Addr) (k : L2.Kind) (r : Rn) (b : Bool), vs = [.ref c, .bl b] ∧ Sk K k H c (rv (rz r)) ∧ ∀ t H', Same H H' → H t = none → H' t = some (.tup (nb r b)) → Q (.ref t) H'
section
variable {P : Program} {w : World} {K : PySem.W.Frag} {mg : Str → Option Value} {base : Heap} {C : Addr}
theorem scAft : FnScope ["_law_row", "_law_behind"] ["_law_row", "_law_behind"] (defScope sAft) := ⟨rfl, rfl, rfl, by decide +kernel, rfl, by decide +kernel, by decide +kernel⟩
theorem ok_aft {f : Addr} {fd : FuncData} (F : Fun K "_law_m_after" "_law_m_after" sAft f fd) : FnOk P w K mg base CX0 1 f fd ["_law_row", "_law_behind"] (spAft K) := by
  refine F.ok scAft (fun vs H Q E h => ?_) (fun cdv A outer s H vs Q E hr h => ?_)
  · obtain ⟨c, _, _, _, rfl, _⟩ := h
    rfl
  · obtain ⟨c, k, r, b, rfl, hc, kk⟩ := h
    refine ⟨_, pss_one (ps_ret (pe_ifExp (pt_val (pv 1)) (pe_tup (pa_cons (pe_ix (ix_list.or ix_tup) (pv 0) pe_int (fun _ _ => rfl)) (pa_cons (pe_ix (ix_list.or ix_tup) (pv 0) pe_int (fun _ _ => rfl)) pa_nil))) (pe_tup (pa_cons (pe_ix (ix_list.or ix_tup) (pv 0) pe_int (fun _ _ => rfl)) (pa_cons (pe_ix (ix_list.or ix_tup) (pv 0) pe_int (fun _ _ => rfl)) pa_nil))))), ?_⟩
    have ix : ∀ {i : Int} {x : V} {Q : VK}, atI (rv (rz r)) i = some x → Q x H → (rIxL K (.ref c) (.int i) H Q ∨ rIxT K (.ref c) (.int i) H Q) := fun {i x Q} h q => by
      cases k with
      | l => exact .inl ⟨c, _, i, x, rfl, rfl, hc, h, q⟩
      | t => exact .inr ⟨c, _, i, x, rfl, rfl, hc, h, q⟩
    refine ⟨_, rfl, b, rfl, ?_⟩
    cases b with
    | true =>
      refine iteT ⟨_, rfl, ix rfl ⟨_, rfl, ix rfl ⟨by show 2 ≤ sizeLine; decide, fun t ht => ?_⟩⟩⟩
      exact kk t _ (Same.new ht) ht upd_same
    | false =>
      refine iteF ⟨_, rfl, ix rfl ⟨_, rfl, ix rfl ⟨by show 2 ≤ sizeLine; decide, fun t ht => ?_⟩⟩⟩
      exact kk t _ (Same.new ht) ht upd_same
end
/-! ### the walk -/
abbrev prV (p : Nat × Nat) : List V := [.int ((p.1 : Nat) : Int), .int ((p.2 : Nat) : Int)]
abbrev isP : Hp → Addr → Nat × Nat → Prop := TupOf prV
def pk (p : Nat × Nat) : LKey := [.num ((p.1 : Nat) : Int), .num ((p.2 : Nat) : Int)]
theorem pk_inj {p q : Nat × Nat} (h : pk p = pk q) : p = q := by
  obtain ⟨a, b⟩ := p
  obtain ⟨c, d⟩ := q
  simp [pk] at h
  obtain ⟨h1, h2⟩ := h
  have h1 : a = c := by omega
  have h2 : b = d := by omega
  subst h1
  subst h2
  rfl
theorem isP.key {H : Hp} {c : Addr} {p : Nat × Nat} (h : isP H c p) : KeyAt H c (pk p) := ⟨_, h, .cons (.inl rfl) (.cons (.inl rfl) .nil)⟩
theorem pk_val (sn : List (Nat × Nat)) (p : Nat × Nat) : (valV (sn.map fun q => (pk q, V.bl true)) (pk p)).isSome = decide (p ∈ sn) := by
  induction sn with
  | nil => simp [valV]
  | cons q sn ih =>
    rw [List.map_cons]
    by_cases e : pk q = pk p
    · rw [valV_pos e, pk_inj e]
      simp
    · rw [valV_neg e, ih]
      have : ¬ p = q := fun z => e (by rw [z])
      simp [this]
structure SideAt (K : PySem.W.Frag) (H : Hp) (R : Addr) (A : List Rn) : Prop where
  ex : ∃ k refs, Sk K k H R refs ∧ ∃ k' : L2.Kind, Ea H (fun H c r => Sk K k' H c (rv (rz r))) refs A
theorem Sk.same {K : PySem.W.Frag} {k : L2.Kind} {H H' : Hp} {a : Addr} {xs : List V} (h : Sk K k H a xs) (s : Same H H') : Sk K k H' a xs := h.up s
theorem SideAt.same {K : PySem.W.Frag} {H H' : Hp} {R : Addr} {A : List Rn} (h : SideAt K H R A) (s : Same H H') : SideAt K H' R A := by
  obtain ⟨k, refs, h1, k', h2⟩ := h
  exact ⟨k, refs, h1.up s, k', h2.imp fun c r q => Sk.same q s⟩
/-- how the walk stands: the list of pairs, the dict of those seen -/
structure LI (P : Program) (w : World) (H H' : Hp) (W Dd : Addr) (A B : List Rn) (S : List (Nat × Nat)) (at' : Nat) (wt sn : List (Nat × Nat)) (acc : List V) (kvs : List DE) : Prop where
  sm : Same H H'
  hW : H' W = some (.lst acc)
  eW : Ea H' isP acc wt
  hD : H' Dd = some (DX P w Dd kvs)
  ka : ∀ p ∈ kvs, KeyAt H' p.2.1 p.1
  em : kvs.map (fun p => (p.1, p.2.2)) = sn.map fun q => (pk q, V.bl true)
  ui : LF.UI A B S at' wt sn
theorem LI.same {P : Program} {w : World} {H H' H2 : Hp} {W Dd : Addr} {A B : List Rn} {S : List (Nat × Nat)} {at' : Nat} {wt sn : List (Nat × Nat)} {acc : List V} {kvs : List DE} (I : LI P w H H' W Dd A B S at' wt sn acc kvs) (s : Same H' H2) : LI P w H H2 W Dd A B S at' wt sn acc kvs :=
  ⟨I.sm.trans s, s _ _ I.hW, I.eW.imp fun c r q => s _ _ q, s _ _ I.hD, fun p hp => (I.ka p hp).kt fun b ys e => s _ _ e, I.em, I.ui⟩
theorem ixk {K : PySem.W.Frag} {k : L2.Kind} {H : Hp} {R : Addr} {refs : List V} {i : Int} {x : V} {Q : VK} (h : Sk K k H R refs) (e : atI refs i = some x) (q : Q x H) : rIxL K (.ref R) (.int i) H Q ∨ rIxT K (.ref R) (.int i) H Q := by
  cases k with
  | l => exact .inl ⟨R, _, i, x, rfl, rfl, h, e, q⟩
  | t => exact .inr ⟨R, _, i, x, rfl, rfl, h, e, q⟩
theorem SideAt.row {K : PySem.W.Frag} {H : Hp} {R : Addr} {A : List Rn} (h : SideAt K H R A) {a : Nat} {r : Rn} (hr : A[a]? = some r) : ∃ k refs c k', Sk K k H R refs ∧ atI refs (a : Int) = some (.ref c) ∧ Sk K k' H c (rv (rz r)) := by
  obtain ⟨k, refs, h1, k', h2⟩ := h
  obtain ⟨c, hc, q⟩ := h2.get hr
  exact ⟨k, refs, c, k', h1, atI_nat hc, q⟩
def spUnlike (K : PySem.W.Frag) : Sp := fun vs H Q _ => ∃ (R1 R2 L : Addr) (A B : List Rn) (S : List (Nat × Nat)) (prs : List V), vs = [.ref R1, .ref R2, .ref L] ∧ SideAt K H R1 A ∧ SideAt K H R2 B ∧ LF.TOk A ∧ LF.TOk B ∧ A.length ≤ 48 ∧ B.length ≤ 48 ∧
  H L = some (.lst prs) ∧ Ea H isP prs S ∧ S.length ≤ 20 ∧ (∀ p ∈ S, p.1 < A.length ∧ p.2 < B.length) ∧
  ∀ (b : Bool) H', Same H H' → (b = true ↔ ¬ ∀ p ∈ S, LF.Alk A p.1 B p.2) → Q (.bl b) H'
section
variable {P : Program} {w : World} {K : PySem.W.Frag} {mg : Str → Option Value} {base : Heap} {C : Addr}
theorem scUnlike : FnScope ["_law_one", "_law_other", "_law_pairs", "_law_waiting", "_law_seen", "_law_at", "_law_left", "_law_right", "_law_behind", "_law_low", "_law_high"] ["_law_one", "_law_other", "_law_pairs"] (defScope sUnlike) := ⟨rfl, rfl, rfl, by decide +kernel, rfl, by decide +kernel, by decide +kernel⟩
theorem ok_unlike {f g : Addr} {fd gd : FuncData} (F : Fun K "_law_m_unlike" "_law_m_unlike" sUnlike f fd) (T : Txt K mg C) (D : Df K mg "_law_m_after" sAft g gd ["_law_row", "_law_behind"]) : FnOk P w K mg base CX0 2 f fd ["_law_one", "_law_other", "_law_pairs"] (spUnlike K) := by
  have G : FnOk P w K mg base CX0 1 g gd ["_law_row", "_law_behind"] (spAft K) := ok_aft D.F
  refine F.ok scUnlike (fun vs H Q E h => ?_) (fun cdv A0 outer s H vs Q E hr h => ?_)
  · obtain ⟨R1, R2, L, _, _, _, _, rfl, _⟩ := h
    rfl
  · obtain ⟨R1, R2, L, A, B, S, prs, rfl, hA, hB, oA, oB, lA, lB, hL, hP, lS, hS, kk⟩ := h
    have hu := u1 hr.units
    refine ⟨_, pss_cons (ps_par3 (i := 3) (j := 4) (l := 5) (by rfl) scUnlike.nd rfl rfl rfl (by decide) (by decide) (by decide) rfl rfl rfl (pa_cons (pe_callTy call_list_of (by rfl) T.list_ boot_list' (pa_cons (pv 2) pa_nil)) (pa_cons pe_dnewX (pa_cons pe_int pa_nil))) (by rfl))
      (pss_cons (ps_while PassesOwn.never (pt_cmpR op_lt (pv 5) (pe_callB call_len_seq (by rfl) T.len_ PySem.boot_len (pa_cons (pv 3) pa_nil)) (nomark _))
        (pss_cons (ps_asg (pe_ix ix_list (pv 3) (pv 5) (fun _ _ => rfl)) (pg_tup rfl (pgs_cons (pg_name (i := 6) scUnlike.nd rfl (Or.inl rfl)) (pgs_cons (pg_name (i := 7) scUnlike.nd rfl (Or.inl rfl)) pgs_nil))))
        (pss_cut (ps_for PassesOwn.never rfl (pi_tup (pe_tup (pa_cons pe_bl (pa_cons pe_bl pa_nil)))) (pg_name (i := 8) scUnlike.nd rfl (Or.inl rfl))
          (pss_cons (ps_par (i := 9) (j := 10) (by rfl) scUnlike.nd rfl rfl (by decide) rfl rfl (pa_cons (pe_call G hr rfl D.M D.F.kp D.B .nil pass0 (pa_cons (pe_ix (ix_list.or ix_tup) (pv 0) (pv 6) (fun _ _ => rfl)) (pa_cons (pv 8) pa_nil))) (pa_cons (pe_call G hr rfl D.M D.F.kp D.B .nil pass0 (pa_cons (pe_ix (ix_list.or ix_tup) (pv 1) (pv 7) (fun _ _ => rfl)) (pa_cons (pv 8) pa_nil))) pa_nil)) (by rfl))
          (pss_cons (ps_if (pt_cmpR op_ne (pe_ix ix_tup (pv 9) pe_int (fun _ _ => rfl)) (pe_ix ix_tup (pv 10) pe_int (fun _ _ => rfl)) (nomark _)) (pss_one (ps_ret pe_bl)) pss_nil)
          (pss_one (ps_if (pt_cmpR (op_notIn_dx hu) (pe_tup (pa_cons (pe_ix ix_tup (pv 9) pe_int (fun _ _ => rfl)) (pa_cons (pe_ix ix_tup (pv 10) pe_int (fun _ _ => rfl)) pa_nil))) (pv 4) rfl)
            (pss_cons (ps_asg pe_bl (pg_sub (pv 4) (pe_tup (pa_cons (pe_ix ix_tup (pv 9) pe_int (fun _ _ => rfl)) (pa_cons (pe_ix ix_tup (pv 10) pe_int (fun _ _ => rfl)) pa_nil))) (set_dx hu)))
            (pss_one (ps_expr (pe_bm PySem.F.plainAttrs_list PySem.F.slot_list_append PySem.F.type_list_append mt_append (pv 3) (pa_cons (pe_tup (pa_cons (pe_ix ix_tup (pv 9) pe_int (fun _ _ => rfl)) (pa_cons (pe_ix ix_tup (pv 10) pe_int (fun _ _ => rfl)) pa_nil))) pa_nil))))) pss_nil)))))
        (pss_one (ps_set (i := 5) scUnlike.nd rfl (Or.inl rfl) (pe_op op_add (pv 5) pe_int))))))
      (pss_one (ps_ret pe_bl))), ?_⟩
    refine ⟨_, rfl, L, prs, rfl, .inl (SqL.of hL), fun W hW => ?_⟩
    have sW := Same.new (o := .lst prs) hW
    intro Dd hDn
    refine ⟨_, _, _, rfl, ?_⟩
    have sD := Same.new (o := DX P w Dd []) hDn
    have I0 : LI P w H (upd (upd H W (.lst prs)) Dd (DX P w Dd [])) W Dd A B S 0 S [] prs [] :=
      ⟨sW.trans sD, sD _ _ upd_same, hP.imp fun c r q => sD _ _ (sW _ _ q), upd_same, fun p hp => (List.not_mem_nil hp).elim, rfl, .start hS⟩
    have nD : H Dd = none := by
      cases e : H Dd with
      | none => rfl
      | some o => have := sW _ _ e; rw [hDn] at this; cases this
    have neWD : W ≠ Dd := fun e => by rw [← e, upd_same] at hDn; cases hDn
    refine ⟨fun m σ' H' => ∃ at' wt sn acc kvs x6 x7 x8 x9 x10, σ' = [some (.ref R1), some (.ref R2), some (.ref L), some (.ref W), some (.ref Dd), some (.int ((at' : Nat) : Int)), x6, x7, x8, x9, x10] ∧ LI P w H H' W Dd A B S at' wt sn acc kvs ∧ at' ≤ wt.length ∧ at' + m = S.length + A.length * B.length, ⟨_, 0, S, [], prs, [], none, none, none, none, none, rfl, I0, Nat.zero_le _, Nat.zero_add _⟩, ?_⟩
    rintro m _ H1 ⟨at', wt, sn, acc, kvs, x6, x7, x8, x9, x10, rfl, I, hle, hm⟩
    have hal : acc.length = wt.length := I.eW.1
    refine ⟨_, rfl, _, rfl, W, _, rfl, .inl (SqL.of I.hW), _, _, rfl, rfl, _, rfl, ifD_2 (fun hlt => ?_) (fun hge => ?_)⟩
    · have hlt' : at' < wt.length := by omega
      have hsz := I.ui.size
      refine ⟨fun σ' H' => ∃ m', m' < m ∧ ∃ (at' : Nat) (wt sn : List (Nat × Nat)) (acc : List V) (kvs : List DE) (x6 x7 x8 x9 x10 : Option V), σ' = [some (.ref R1), some (.ref R2), some (.ref L), some (.ref W), some (.ref Dd), some (.int ((at' : Nat) : Int)), x6, x7, x8, x9, x10] ∧ LI P w H H' W Dd A B S at' wt sn acc kvs ∧ at' ≤ wt.length ∧ at' + m' = S.length + A.length * B.length, fun _ _ h => h, ?_⟩
      have hp : wt[at']? = some wt[at'] := List.getElem?_eq_getElem hlt'
      generalize hpe : wt[at'] = p at hp
      obtain ⟨c, hc, hcp⟩ := I.eW.get hp
      have hpm := List.mem_of_getElem? hp
      obtain ⟨pA, pB⟩ := I.ui.rng p hpm
      have hr : A[p.1]? = some A[p.1] := List.getElem?_eq_getElem pA
      have hr' : B[p.2]? = some B[p.2] := List.getElem?_eq_getElem pB
      generalize A[p.1] = r at hr
      generalize B[p.2] = r' at hr'
      refine ⟨_, rfl, _, rfl, W, acc, ((at' : Nat) : Int), .ref c, rfl, rfl, SqL.of I.hW, atI_nat hc, ?_⟩
      refine ⟨c, _, rfl, SqT.of hcp, rfl, _, _, rfl, _, _, rfl, rfl, ?_⟩
      refine ⟨fun σ' H' => ∃ (wt sn : List (Nat × Nat)) (acc : List V) (kvs : List DE) (x8 x9 x10 : Option V), σ' = [some (.ref R1), some (.ref R2), some (.ref L), some (.ref W), some (.ref Dd), some (.int ((at' : Nat) : Int)), some (.int ((p.1 : Nat) : Int)), some (.int ((p.2 : Nat) : Int)), x8, x9, x10] ∧ LI P w H H' W Dd A B S at' wt sn acc kvs ∧ wt[at']? = some p ∧ ∀ b, LF.Ok2 A B sn p b, ?_, ?_⟩
      · refine ⟨by show 2 ≤ sizeLine; decide, fun tp htp => ⟨tp, rfl, ⟨_, SqT.of upd_same⟩, ?_⟩⟩
        have I1 := I.same (Same.new (o := .tup [V.bl false, .bl true]) htp)
        refine for_tup (K := K) (a := tp) (xs := [.bl false, .bl true]) (fun j σ' H' => ∃ (wt sn : List (Nat × Nat)) (acc : List V) (kvs : List DE) (x8 x9 x10 : Option V), σ' = [some (.ref R1), some (.ref R2), some (.ref L), some (.ref W), some (.ref Dd), some (.int ((at' : Nat) : Int)), some (.int ((p.1 : Nat) : Int)), some (.int ((p.2 : Nat) : Int)), x8, x9, x10] ∧ LI P w H H' W Dd A B S at' wt sn acc kvs ∧ wt[at']? = some p ∧ H' tp = some (.tup [.bl false, .bl true]) ∧ (0 < j → LF.Ok2 A B sn p false) ∧ (1 < j → LF.Ok2 A B sn p true)) ?_ ?_ ?_ ?_
        · exact ⟨wt, sn, acc, kvs, _, _, _, rfl, I1, hp, upd_same, fun h => absurd h (Nat.lt_irrefl _), fun h => absurd h (by omega)⟩
        · rintro j σ' H' _ ⟨_, _, _, _, _, _, _, _, _, _, ht, _⟩
          exact SqT.of ht
        · rintro j x _ H2 hx ⟨wt, sn, acc, kvs, x8, x9, x10, rfl, I, hp, ht, o1, o2⟩
          obtain ⟨b, rfl, hb⟩ : ∃ b, x = .bl b ∧ ((j = 0 ∧ b = false) ∨ (j = 1 ∧ b = true)) := by
            rcases j with _ | _ | j
            · cases hx; exact ⟨_, rfl, .inl ⟨rfl, rfl⟩⟩
            · cases hx; exact ⟨_, rfl, .inr ⟨rfl, rfl⟩⟩
            · simp at hx
          obtain ⟨k1, refs1, c1, k1', g1, g2, g3⟩ := (hA.same I.sm).row hr
          refine ⟨_, rfl, _, rfl, ixk g1 g2 ⟨_, rfl, c1, k1', r, b, rfl, g3, fun t1 H3 s3 _ ht1 => ?_⟩⟩
          have I3 := I.same s3
          obtain ⟨k2, refs2, c2, k2', q1, q2, q3⟩ := (hB.same I3.sm).row hr'
          refine ⟨_, rfl, _, rfl, ixk q1 q2 ⟨_, rfl, c2, k2', r', b, rfl, q3, fun t2 H4 s4 _ ht2 => ⟨_, _, rfl, ?_⟩⟩⟩
          have I4 := I3.same s4
          have ht1' := s4 _ _ ht1
          have hlt2 := (List.getElem?_eq_some_iff.mp hp).1
          have hpm2 := List.mem_of_getElem? hp
          refine ⟨_, rfl, t1, nb r b, (1 : Int), .bl (LF.fl r b), rfl, rfl, SqT.of ht1', rfl, _, rfl, t2, nb r' b, (1 : Int), .bl (LF.fl r' b), rfl, rfl, SqT.of ht2, rfl, rfl, _, rfl, ?_⟩
          by_cases hf : LF.fl r b = LF.fl r' b
          · rw [show (!decide (V.bl (LF.fl r b) = V.bl (LF.fl r' b))) = false from by rw [hf]; simp]
            refine iteF ?_
            refine ⟨_, rfl, t1, nb r b, (0 : Int), .int ((LF.nx r b : Nat) : Int), rfl, rfl, SqT.of ht1', rfl, _, rfl, t2, nb r' b, (0 : Int), .int ((LF.nx r' b : Nat) : Int), rfl, rfl, SqT.of ht2, rfl, by show 2 ≤ sizeLine; decide, fun t3 h3 => ?_⟩
            have e3 := Same.new (o := .tup (prV (LF.nx r b, LF.nx r' b))) h3
            have I5 := I4.same e3
            have key3 : KeyAt (upd H4 t3 (.tup (prV (LF.nx r b, LF.nx r' b)))) t3 (pk (LF.nx r b, LF.nx r' b)) := isP.key (upd_same)
            refine ⟨_, rfl, Dd, t3, _, pk (LF.nx r b, LF.nx r' b), rfl, rfl, ⟨kvs, I5.hD, rfl, I5.ka⟩, key3, _, rfl, ?_⟩
            rw [I5.em, pk_val]
            have fin : ∀ (sn' : List (Nat × Nat)), (∀ q ∈ sn, q ∈ sn') → (LF.nx r b, LF.nx r' b) ∈ sn' → (0 < j + 1 → LF.Ok2 A B sn' p false) ∧ (1 < j + 1 → LF.Ok2 A B sn' p true) := fun sn' inc hq => by
              have up : ∀ c, LF.Ok2 A B sn p c → LF.Ok2 A B sn' p c := fun c o s s' h1 h2 => ⟨(o s s' h1 h2).1, inc _ (o s s' h1 h2).2⟩
              have now : LF.Ok2 A B sn' p b := fun s s' h1 h2 => by
                rw [hr] at h1
                rw [hr'] at h2
                cases h1
                cases h2
                exact ⟨hf, hq⟩
              rcases hb with ⟨rfl, rfl⟩ | ⟨rfl, rfl⟩
              · exact ⟨fun _ => now, fun h => absurd h (by omega)⟩
              · exact ⟨fun _ => up _ (o1 (by omega)), fun _ => now⟩
            by_cases hq : (LF.nx r b, LF.nx r' b) ∈ sn
            · rw [decide_eq_true hq]
              refine iteF ?_
              obtain ⟨f1, f2⟩ := fin sn (fun q h => h) hq
              exact ⟨wt, sn, acc, kvs, _, _, _, rfl, I5, hp, e3 _ _ (s4 _ _ (s3 _ _ ht)), f1, f2⟩
            · rw [decide_eq_false hq]
              refine iteT ?_
              have hsz2 := I5.ui.size
              have hmul : A.length * B.length ≤ 48 * 48 := Nat.mul_le_mul lA lB
              have hkl : kvs.length = sn.length := by
                have := congrArg List.length I5.em
                rw [List.length_map, List.length_map] at this
                exact this
              have hul := I5.ui.len
              have hal5 : acc.length = wt.length := I5.eW.1
              have hnone : valV (kvs.map fun p => (p.1, p.2.2)) (pk (LF.nx r b, LF.nx r' b)) = none := by
                have := pk_val sn (LF.nx r b, LF.nx r' b)
                rw [← I5.em, decide_eq_false hq] at this
                cases hv : valV (kvs.map fun p => (p.1, p.2.2)) (pk (LF.nx r b, LF.nx r' b)) with
                | none => rfl
                | some v => rw [hv] at this; cases this
              have ht15 := e3 _ _ ht1'
              have ht25 := e3 _ _ ht2
              have htp5 := e3 _ _ (s4 _ _ (s3 _ _ ht))
              generalize (upd H4 t3 (.tup (prV (LF.nx r b, LF.nx r' b)))) = H5 at I5 ht15 ht25 htp5
              refine ⟨_, rfl, _, rfl, t1, nb r b, (0 : Int), .int ((LF.nx r b : Nat) : Int), rfl, rfl, SqT.of ht15, rfl, _, rfl, t2, nb r' b, (0 : Int), .int ((LF.nx r' b : Nat) : Int), rfl, rfl, SqT.of ht25, rfl, by show 2 ≤ sizeLine; decide, fun t4 h4 => ?_⟩
              have e4 := Same.new (o := .tup (prV (LF.nx r b, LF.nx r' b))) h4
              have I6 := I5.same e4
              have h44 : isP (upd H5 t4 (.tup (prV (LF.nx r b, LF.nx r' b)))) t4 (LF.nx r b, LF.nx r' b) := upd_same
              have ht16 := e4 _ _ ht15
              have ht26 := e4 _ _ ht25
              have htp6 := e4 _ _ htp5
              refine ⟨Dd, t4, kvs, pk (LF.nx r b, LF.nx r' b), rfl, rfl, I6.hD, I6.ka, isP.key h44, hnone, Nat.lt_of_le_of_lt (by omega : kvs.length ≤ 20 + 48 * 48) (by decide), ?_⟩
              have dk : ∀ c ys, (upd H5 t4 (.tup (prV (LF.nx r b, LF.nx r' b)))) c = some (.tup ys) → (upd (upd H5 t4 (.tup (prV (LF.nx r b, LF.nx r' b)))) Dd (DX P w Dd (kvs ++ [(pk (LF.nx r b, LF.nx r' b), t4, V.bl true)]))) c = some (.tup ys) := fun c ys e => by
                rw [upd_ne (ne_of e I6.hD (by intro z; cases z))]
                exact e
              have ht17 := dk _ _ ht16
              have ht27 := dk _ _ ht26
              have htp7 := dk _ _ htp6
              have hW7 : (upd (upd H5 t4 (.tup (prV (LF.nx r b, LF.nx r' b)))) Dd (DX P w Dd (kvs ++ [(pk (LF.nx r b, LF.nx r' b), t4, V.bl true)]))) W = some (.lst acc) := by
                rw [upd_ne neWD]
                exact I6.hW
              have hD7 : (upd (upd H5 t4 (.tup (prV (LF.nx r b, LF.nx r' b)))) Dd (DX P w Dd (kvs ++ [(pk (LF.nx r b, LF.nx r' b), t4, V.bl true)]))) Dd = some (DX P w Dd (kvs ++ [(pk (LF.nx r b, LF.nx r' b), t4, V.bl true)])) := upd_same
              have eW7 : Ea (upd (upd H5 t4 (.tup (prV (LF.nx r b, LF.nx r' b)))) Dd (DX P w Dd (kvs ++ [(pk (LF.nx r b, LF.nx r' b), t4, V.bl true)]))) isP acc wt := I6.eW.imp fun c q z => dk _ _ z
              have ka7 : ∀ p ∈ (kvs ++ [(pk (LF.nx r b, LF.nx r' b), t4, V.bl true)]), KeyAt (upd (upd H5 t4 (.tup (prV (LF.nx r b, LF.nx r' b)))) Dd (DX P w Dd (kvs ++ [(pk (LF.nx r b, LF.nx r' b), t4, V.bl true)]))) p.2.1 p.1 := fun p' hp' => by
                rcases List.mem_append.mp hp' with hp' | hp'
                · exact (I6.ka p' hp').kt dk
                · cases List.mem_singleton.mp hp'
                  exact (isP.key h44).kt dk
              have sm7 : Same H (upd (upd H5 t4 (.tup (prV (LF.nx r b, LF.nx r' b)))) Dd (DX P w Dd (kvs ++ [(pk (LF.nx r b, LF.nx r' b), t4, V.bl true)]))) := fun c o e => by
                rw [upd_ne (ne_of_none e nD)]
                exact I6.sm _ _ e
              have em7 : (kvs ++ [(pk (LF.nx r b, LF.nx r' b), t4, V.bl true)]).map (fun p => (p.1, p.2.2)) = (sn ++ [(LF.nx r b, LF.nx r' b)]).map fun q => (pk q, V.bl true) := by
                rw [List.map_append, List.map_append, I5.em]
                rfl
              refine ⟨_, rfl, .inl ⟨rfl, _, SqL.of hW7⟩, ?_⟩
              refine ⟨_, rfl, t1, nb r b, (0 : Int), .int ((LF.nx r b : Nat) : Int), rfl, rfl, SqT.of ht17, rfl, _, rfl, t2, nb r' b, (0 : Int), .int ((LF.nx r' b : Nat) : Int), rfl, rfl, SqT.of ht27, rfl, by show 2 ≤ sizeLine; decide, fun t5 h5 => ?_⟩
              have e5 := Same.new (o := .tup (prV (LF.nx r b, LF.nx r' b))) h5
              have hW8 := e5 _ _ hW7
              refine ⟨W, acc, _, rfl, rfl, hW8, Nat.lt_of_le_of_lt (by omega : acc.length ≤ 20 + 48 * 48) (by decide), ?_⟩
              obtain ⟨f1, f2⟩ := fin (sn ++ [(LF.nx r b, LF.nx r' b)]) (fun q h => List.mem_append_left _ h) (List.mem_append_right _ (List.mem_singleton.mpr rfl))
              have tk : ∀ c ys, (upd (upd (upd H5 t4 (.tup (prV (LF.nx r b, LF.nx r' b)))) Dd (DX P w Dd (kvs ++ [(pk (LF.nx r b, LF.nx r' b), t4, V.bl true)]))) t5 (.tup (prV (LF.nx r b, LF.nx r' b)))) c = some (.tup ys) → (upd (upd (upd (upd H5 t4 (.tup (prV (LF.nx r b, LF.nx r' b)))) Dd (DX P w Dd (kvs ++ [(pk (LF.nx r b, LF.nx r' b), t4, V.bl true)]))) t5 (.tup (prV (LF.nx r b, LF.nx r' b)))) W (.lst (acc ++ [.ref t5]))) c = some (.tup ys) := fun c ys e => by
                rw [upd_ne (ne_of e hW8 (by intro z; cases z))]
                exact e
              refine ⟨wt ++ [(LF.nx r b, LF.nx r' b)], sn ++ [(LF.nx r b, LF.nx r' b)], acc ++ [.ref t5], (kvs ++ [(pk (LF.nx r b, LF.nx r' b), t4, V.bl true)]), _, _, _, rfl, ⟨fun c o e => ?_, upd_same, ?_, ?_, fun p' hp' => (ka7 p' hp').kt fun c ys e => tk _ _ (e5 _ _ e), em7, I5.ui.push oA oB hlt2 hpm2 hr hr' b hq⟩, ?_, tk _ _ (e5 _ _ htp7), f1, f2⟩
              · rw [upd_ne (ne_of_none e hW)]
                exact e5 _ _ (sm7 _ _ e)
              · exact Ea.push (eW7.imp fun c q z => tk _ _ (e5 _ _ z)) (tk _ _ upd_same)
              · rw [upd_ne neWD.symm]
                exact e5 _ _ hD7
              · rw [List.getElem?_append_left hlt2]
                exact hp
          · rw [show (!decide (V.bl (LF.fl r b) = V.bl (LF.fl r' b))) = true from by
              have : ¬ V.bl (LF.fl r b) = V.bl (LF.fl r' b) := fun z => hf (by injection z)
              simp [this]]
            refine iteT ?_
            refine kk true H4 I4.sm ⟨fun _ => I4.ui.differ hpm2 hr hr' b hf, fun _ => rfl⟩
        · rintro σ' H2 ⟨wt, sn, acc, kvs, x8, x9, x10, rfl, I, hp, ht, o1, o2⟩
          exact ⟨wt, sn, acc, kvs, _, _, _, rfl, I, hp, fun b => by cases b; exact o1 (by show 0 < 2; decide); exact o2 (by show 1 < 2; decide)⟩
      rintro _ H2 ⟨wt, sn, acc, kvs, x8, x9, x10, rfl, I, hp, ok⟩
      have hlt2 := (List.getElem?_eq_some_iff.mp hp).1
      refine ⟨_, rfl, _, _, rfl, rfl, ?_⟩
      refine ⟨m - 1, by omega, at' + 1, wt, sn, acc, kvs, some (.int ((p.1 : Nat) : Int)), some (.int ((p.2 : Nat) : Int)), x8, x9, x10, ?_, ⟨I.sm, I.hW, I.eW, I.hD, I.ka, I.em, I.ui.next hp ok⟩, hlt2, by omega⟩
      rfl
    · have hge' : at' = wt.length := by omega
      subst hge'
      refine kk false H1 I.sm ?_
      exact ⟨(by intro z; cases z), fun z => absurd I.ui.done z⟩
end
end PA

set_option maxHeartbeats 8000000
namespace PA
open PySem L2 RZ
open C8 (pss_cut tCut)
theorem mk_rule {K : PySem.W.Frag} {C : Addr} {H : Hp} {Q : VK} {E : XK} {G S : Addr} {refs : List V} {rows : List Rw} {starts : List Int} {k : Int} (hG : Sq K H G refs) (hE : Each H isLT refs rows) (hS : Sq K H S (starts.map V.int)) (gd : Good rows starts k)
    {x dx : Addr} (nx : H x = none) (ndx : H dx = none) (nex : dx ≠ x) (kk : ∀ H', Same H H' → RuleAt K C H' x rows starts k → Q .non H') :
    spInit K C [V.ref x, V.ref G, V.ref S] (upd (upd H dx (.own x)) x (.ins C dx [])) Q E := by
  have s1 : Same H (upd (upd H dx (.own x)) x (.ins C dx [])) := fun c o e => by
    rw [upd_ne (ne_of_none e nx), upd_ne (ne_of_none e ndx)]
    exact e
  refine ⟨x, dx, G, S, refs, rows, starts, k, rfl, upd_same, hG.up s1, hE.sameLT s1, hS.up s1, gd, fun H' ⟨R, S', refs', h1, h2, h3, h4⟩ kp => kk H' (fun c o e => kp c o (s1 _ _ e) (ne_of_none e nx)) ⟨dx, R, S', refs', h1, h2, h3, h4⟩⟩
abbrev sLeast : Stmt := inClass (top 33) 3
abbrev stZ (st : List Nat) : List Int := st.map fun (n : Nat) => (n : Int)
structure GoodN (rn : List Rn) (st : List Nat) (k : Int) : Prop where
  ok : LF.TOk rn
  so : ∀ x ∈ st, x < rn.length
  most : rn.length ≤ 48
  root : Root (st.length : Int) k
theorem root_ne {n : Int} {k : Int} (r : Root n k) : 1 ≤ n ∧ n ≤ 16 := by cases r <;> decide
theorem GoodN.good {rn : List Rn} {st : List Nat} {k : Int} (g : GoodN rn st k) : Good (rn.map rz) (stZ st) k := by
  obtain ⟨r1, r2⟩ := root_ne g.root
  refine ⟨?_, by rw [List.length_map]; exact g.most, fun r hr => ?_, by unfold stZ; rw [List.length_map]; exact g.root, fun s hs => ?_⟩
  · rw [List.length_map]
    match st, g, r1 with
    | [], _, r1 => simp at r1
    | s :: _, g, _ => have := g.so s (List.mem_cons_self ..); omega
  · obtain ⟨z, hz, rfl⟩ := List.mem_map.mp hr
    have := g.ok z hz
    rw [List.length_map]
    show (0 ≤ (z.1 : Int) ∧ (z.1 : Int) < _) ∧ 0 ≤ (z.2.2.1 : Int) ∧ (z.2.2.1 : Int) < _
    omega
  · obtain ⟨z, hz, rfl⟩ := List.mem_map.mp hs
    have := g.so z hz
    rw [List.length_map]
    omega
theorem GoodN.lf {rn : List Rn} {st : List Nat} {k : Int} (g : GoodN rn st k) : GoodN (LF.lf rn st).1 (LF.lf rn st).2 k :=
  ⟨LF.laid_ok g.ok g.so, LF.lf_st g.ok g.so, Nat.le_trans (LF.lf_le g.ok g.so) g.most, by rw [LF.lf_len]; exact g.root⟩
def RuleZ (K : PySem.W.Frag) (C : Addr) (H : Hp) (p : Addr) (rn : List Rn) (st : List Nat) (k : Int) : Prop := RuleAt K C H p (rn.map rz) (stZ st) k
def spLeastM (K : PySem.W.Frag) (C : Addr) : Sp := fun vs H Q _ => ∃ (p : Addr) (rn : List Rn) (st : List Nat) (k : Int), vs = [.ref p] ∧ RuleZ K C H p rn st k ∧ GoodN rn st k ∧
  ∀ q H', Same H H' → RuleZ K C H' q (LF.lf rn st).1 (LF.lf rn st).2 k → Q (.ref q) H'
section
variable {P : Program} {w : World} {K : PySem.W.Frag} {mg : Str → Option Value} {base : Heap} {C fI dd g1 g2 g3 g4 f1 f2 f3 f4 f5 f6 f7 : Addr} {dI gd1 gd2 gd3 gd4 d1 d2 d3 d4 d5 d6 d7 : FuncData}
theorem scLeast : FnScope ["self", "rows", "starts"] ["self"] (defScope sLeast) := ⟨rfl, rfl, rfl, by decide +kernel, rfl, by decide +kernel, by decide +kernel⟩
theorem ok_leastM {f : Addr} {fd : FuncData} (F : Fun K "least" "Rule.least" sLeast f fd) (T : Txt K mg C) (I : FunI K fI dI dd) (M : Mk K C fI) (b2 : Binds K dI ["self", "rows", "starts"] []) (D1 : Df K mg "is_integer" sIsInt g1 gd1 ["value"]) (D2 : Df K mg "is_below" sBelow g2 gd2 ["value", "count"]) (D3 : Df K mg "_is_row" sIsRow g3 gd3 ["row", "count"]) (D4 : Df K mg "_check_table" sCheck g4 gd4 ["rows", "starts"])
    (L : LibF K mg f1 f2 f3 f4 f5 f6 f7 d1 d2 d3 d4 d5 d6 d7) : FnOk P w K mg base CX0 7 f fd ["self"] (spLeastM K C) := by
  have GI : FnOk P w K mg base CX0 5 fI dI ["self", "rows", "starts"] (spInit K C) := ok_init I T D1 D2 D3 D4
  have G : FnOk P w K mg base CX0 4 f1 d1 ["rows", "starts"] (spLeastF K) := ok_leastF T L
  refine F.ok scLeast (fun vs H Q E h => ?_) (fun cdv A outer s H vs Q E hr h => ?_)
  · obtain ⟨p, _, _, _, rfl, _⟩ := h
    rfl
  · obtain ⟨p, rn, st, k, rfl, hp, g, kk⟩ := h
    have hr4 : Room 4 _ := hr.mono (by decide)
    refine ⟨_, pss_cons (ps_asg (pe_call G hr4 rfl L.F1.M L.F1.F.kp L.F1.B .nil pass0 (pa_cons (pe_fld (pv 0) rfl) (pa_cons (pe_fld (pv 0) rfl) pa_nil))) (pg_tup rfl (pgs_cons (pg_name (i := 1) scLeast.nd rfl (Or.inl rfl)) (pgs_cons (pg_name (i := 2) scLeast.nd rfl (Or.inl rfl)) pgs_nil))))
      (pss_one (ps_ret (pe_make M GI hr rfl T.mgC b2 .nil pass0 (pa_cons (pv 1) (pa_cons (pv 2) pa_nil))))), ?_⟩
    obtain ⟨r1, r2⟩ := root_ne g.root
    obtain ⟨dx, R, S, refs, hpo, hR, hE, hS⟩ := id hp
    have hE' : Ea H isR refs rn := ⟨by have := hE.1; rw [List.length_map] at this; exact this, fun i x r hx hr => hE.2 i x (rz r) hx (by rw [List.getElem?_map, hr]; rfl)⟩
    have hS' : SqT K H S (natsV st) := by rw [natsV_ints]; exact hS
    refine ⟨_, rfl, p, C, dx, _, _, rfl, hpo, T.cl, T.nR, rf_rows _ _ _, _, rfl, p, C, dx, _, _, rfl, hpo, T.cl, T.nS, rf_starts _ _ _, R, S, .t, .t, refs, rn, st, rfl, SqT.of hR, hE', hS', g.ok, g.so, Nat.le_trans g.most (by decide), by omega, fun t T1 T2 refs' H1 ht hT1 hE1 hT2 s1 => ?_⟩
    refine ⟨t, _, rfl, SqT.of ht, rfl, _, _, rfl, _, _, rfl, rfl, ?_⟩
    have hE2 : Each H1 isLT refs' ((LF.lf rn st).1.map rz) := by
      refine ⟨by rw [List.length_map]; exact hE1.1, fun i x r hx hr => ?_⟩
      rw [List.getElem?_map, Option.map_eq_some_iff] at hr
      obtain ⟨r0, hr, rfl⟩ := hr
      obtain ⟨c, hc, q⟩ := hE1.2 i x r0 hx hr
      exact ⟨c, hc, .inl q⟩
    have hT2' : H1 T2 = some (.tup ((stZ (LF.lf rn st).2).map V.int)) := by rw [← natsV_ints]; exact hT2
    refine ⟨_, rfl, _, rfl, fun x dx nx ndx nex => mk_rule (G := T1) (S := T2) (refs := refs') (.inr (SqT.of hT1)) hE2 (.inr (SqT.of hT2')) g.lf.good nx ndx nex fun H5 s5 r5 => ⟨rfl, kk x H5 (s1.trans s5) r5⟩⟩
end
end PA

set_option maxHeartbeats 4000000
namespace PA
open PySem L2 RZ
open C8 (pss_cut tCut)
theorem pe_bmF {X : Cx} {K : PySem.W.Frag} (hK : X.K = K) {o e : PySem.Expr} {es : List PySem.Expr} {to : TE} {t : TA} {name : Str} {apos cpos : Pos} {T id : String} {r : V → List V → Hp → VK → Prop} (pa : PlainAttrs T) (sl : Slot T name id) (hty : typeOf (Value.builtin id) = pure (Value.type "method_descriptor")) (hm : MtR X id r) (ho : PE X o to) (ha : PA X (e :: es) t)
    (h1 : attributeBase o name X.env (eval o X.env) = eval o X.env := by rfl)
    (h2 : ((((backTo cpos (starEach (e :: es) X.env)).all fun x => !x.fst) && (backToKw cpos (keywordEach [] X.env)).all fun x => x.fst.isSome) && decide (((e :: es).length + ([] : List Keyword).length + if ([] : List Keyword).isEmpty = true then 0 else 1) < 30)) = true := by rfl)
    (h3 : (apos.endLine == cpos.line) = true := by rfl)
    (h4 : starEach (e :: es) X.env = (false, eval e X.env) :: starEach es X.env := by rfl)
    (h5 : ((backTo cpos (starEach es X.env)).any fun x => x.fst) = false := by rfl) : PE X ((o.Attribute name apos).Call (e :: es) [] cpos) (tBM K T r to t) := by
  subst hK
  exact pe_bm pa sl hty hm ho ha h1 h2 h3 h4 h5
theorem erase_perm {α : Type} {l : List α} {i : Nat} (h : i < l.length) : (l[i] :: l.eraseIdx i).Perm l := by
  rw [List.eraseIdx_eq_take_drop_succ]
  have e : l.take i ++ l[i] :: l.drop (i + 1) = l := by
    rw [← List.drop_eq_getElem_cons h, List.take_append_drop]
  have p : (l.take i ++ l[i] :: l.drop (i + 1)).Perm (l[i] :: (l.take i ++ l.drop (i + 1))) := List.perm_middle
  rw [e] at p
  exact p.symm
abbrev sPick : Stmt := top 46
theorem keep_updB {a l D : Addr} {H H' : Hp} {o : HO} (k : Keep a l H H') (hD : H D = Option.none) : Keep a l H (upd H' D o) := fun c u ca cl e => by
  rw [upd_ne (ne_of_none e hD)]
  exact k c u ca cl e
theorem keep_none {a l : Addr} {H H' : Hp} {p : Addr} (k : Keep a l H H') (pa : p ≠ a) (pl : p ≠ l) (h : H' p = Option.none) : H p = Option.none := by
  cases e : H p with
  | none => rfl
  | some o => rw [k p o pa pl e] at h; cases h
def spPick : Sp := fun vs H Q _ => ∃ (a l L : Addr) (n : Nat) (xs : List V), vs = [.ref a, .ref L] ∧ StreamAt H a l n ∧ n ≤ 20000 ∧ H L = some (.lst xs) ∧ L ≠ a ∧ L ≠ l ∧ 1 ≤ xs.length ∧ xs.length ≤ 48 ∧
  ∀ (i : Nat) (x : V) (H' : Hp), xs[i]? = some x → StreamAt H' a l (n + 1) → Keep a l H H' → Q x H'
section
variable {P : Program} {w : World} {K : PySem.W.Frag} {mg : Str → Option Value} {base : Heap} {C : Addr}
theorem scPick : FnScope ["_law_stream", "_law_some"] ["_law_stream", "_law_some"] (defScope sPick) := ⟨rfl, rfl, rfl, by decide +kernel, rfl, by decide +kernel, by decide +kernel⟩
theorem ok_pick {f g : Addr} {fd gd : FuncData} (F : Fun K "_law_pick" "_law_pick" sPick f fd) (T : Txt K mg C) (D : Df K mg "_law_draw" sDraw g gd ["_law_stream", "_law_many"]) : FnOk P w K mg base CX0 2 f fd ["_law_stream", "_law_some"] spPick := by
  have G : FnOk P w K mg base CX0 1 g gd ["_law_stream", "_law_many"] spDraw := ok_draw D.F T
  refine F.ok scPick (fun vs H Q E h => ?_) (fun cdv A outer s H vs Q E hr h => ?_)
  · obtain ⟨a, l, L, n, _, rfl, _⟩ := h
    rfl
  · obtain ⟨a, l, L, n, xs, rfl, S0, hn, hL, La, Ll, h1, h48, kk⟩ := h
    refine ⟨_, pss_one (ps_ret (pe_ix ix_list (pv 1) (pe_call G hr rfl D.M D.F.kp D.B .nil pass0 (pa_cons (pv 0) (pa_cons (pe_callB call_len_seq (by rfl) T.len_ PySem.boot_len (pa_cons (pv 1) pa_nil)) pa_nil))) (fun _ _ => rfl))), ?_⟩
    refine ⟨_, rfl, _, rfl, _, rfl, L, xs, rfl, .inl (SqL.of hL), a, l, n, _, rfl, S0, by omega, by omega, sm48 (by omega) (by omega), fun r H1 r0 r1 S1 kp1 => ?_⟩
    have hi : r.toNat < xs.length := by omega
    have hx : xs[r.toNat]? = some xs[r.toNat] := List.getElem?_eq_getElem hi
    have ha := atI_nat hx
    rw [Int.toNat_of_nonneg r0] at ha
    exact ⟨L, xs, r, _, rfl, rfl, SqL.of (kp1 _ _ La Ll hL), ha, kk _ _ H1 hx S1 kp1⟩
end
end PA

/-! the law's visit comes to LF.visit -/
namespace LF
variable {L : Type} [DecidableEq L] {rows : List (Row L)} {o found : List Nat} {at' : Nat}
def VI (rows : List (Row L)) (o : List Nat) (at' : Nat) (found : List Nat) : Prop := ∃ f w s, VOk rows w s ∧ need rows w s ≤ f ∧ visit rows f w s = o ∧ s.length = at' ∧ found = w.foldl push s
theorem VI.start {st : List Nat} (ok : TOk rows) (hs : ∀ x ∈ st, x < rows.length) : VI rows (ord rows st) 0 (uniq st) :=
  ⟨st.length + 2 * rows.length, st, [], ⟨ok, hs, (by intro x hx; cases hx), List.nodup_nil⟩, (by unfold need; simp), rfl, rfl, rfl⟩
theorem vi_cases : ∀ (w s : List Nat) (f : Nat), VOk rows w s → need rows w s ≤ f →
    (visit rows f w s = s ∧ w.foldl push s = s) ∨ ∃ f' x w', VOk rows (x :: w') s ∧ need rows (x :: w') s ≤ f' + 1 ∧ visit rows (f' + 1) (x :: w') s = visit rows f w s ∧ (x :: w').foldl push s = w.foldl push s ∧ ¬ x ∈ s
  | [], s, f, v, h => .inl ⟨(by cases f <;> simp [visit]), rfl⟩
  | x :: w, s, 0, v, h => by
    unfold need at h
    simp at h
  | x :: w, s, f + 1, v, h => by
    by_cases hx : x ∈ s
    · have := vi_cases w s f v.old (by unfold need at h ⊢; rw [List.length_cons] at h; omega)
      have e : (x :: w).foldl push s = w.foldl push s := by
        rw [List.foldl_cons]
        congr 1
        unfold push
        rw [if_pos hx]
      rw [visit_old hx, e]
      exact this
    · exact .inr ⟨f, x, w, v, h, rfl, rfl, hx⟩
theorem VI.pre (v : VI rows o at' found) : at' ≤ found.length := by
  obtain ⟨f, w, s, _, _, _, rfl, rfl⟩ := v
  obtain ⟨t, ht⟩ := fold_pre w s
  rw [ht, List.length_append]
  omega
theorem VI.nd (v : VI rows o at' found) : found.Nodup := by
  obtain ⟨f, w, s, v, _, _, rfl, rfl⟩ := v
  exact fold_nodup v.nd
theorem VI.lt (v : VI rows o at' found) : ∀ x ∈ found, x < rows.length := by
  obtain ⟨f, w, s, v, _, _, rfl, rfl⟩ := v
  intro x hx
  rw [fold_mem] at hx
  rcases hx with hx | hx
  · exact v.hs x hx
  · exact v.hw x hx
theorem VI.len (v : VI rows o at' found) : found.length ≤ rows.length := few _ v.nd v.lt
theorem VI.done (v : VI rows o at' found) (h : found.length ≤ at') : found = o := by
  obtain ⟨f, w, s, v, hf, ho, rfl, rfl⟩ := v
  rcases vi_cases w s f v hf with ⟨h1, h2⟩ | ⟨f', x, w', v', hf', e1, e2, hx⟩
  · rw [h2, ← ho, h1]
  · exfalso
    rw [← e2, List.foldl_cons] at h
    have : push s x = s ++ [x] := by unfold push; rw [if_neg hx]
    rw [this] at h
    obtain ⟨t, ht⟩ := fold_pre w' (s ++ [x])
    rw [ht] at h
    simp at h
    omega
theorem VI.step (v : VI rows o at' found) (h : at' < found.length) : ∃ x r, found[at']? = some x ∧ rows[x]? = some r ∧ VI rows o (at' + 1) (push (push found r.1) r.2.2.1) := by
  obtain ⟨f, w, s, v, hf, ho, rfl, rfl⟩ := v
  rcases vi_cases w s f v hf with ⟨h1, h2⟩ | ⟨f', x, w', v', hf', e1, e2, hx⟩
  · rw [h2] at h
    omega
  · have hlt := v'.hw x List.mem_cons_self
    have hr : rows[x]? = some rows[x] := List.getElem?_eq_getElem hlt
    have hp : push s x = s ++ [x] := by unfold push; rw [if_neg hx]
    have hf2 : (x :: w').foldl push s = w'.foldl push (s ++ [x]) := by rw [List.foldl_cons, hp]
    refine ⟨x, rows[x], ?_, hr, ?_⟩
    · rw [← e2, hf2]
      obtain ⟨t, ht⟩ := fold_pre w' (s ++ [x])
      rw [ht, List.append_assoc, List.getElem?_append_right (Nat.le_refl _), Nat.sub_self]
      rfl
    · refine ⟨f', w' ++ [rows[x].1, rows[x].2.2.1], s ++ [x], v'.new hx hr, ?_, ?_, by simp, ?_⟩
      · have := need_new (r := rows[x]) v' hx
        omega
      · rw [← ho, ← e1, visit_new hx hr]
      · rw [← e2, hf2, List.foldl_append]
        rfl
end LF

set_option maxHeartbeats 4000000
namespace PA
open PySem L2 RZ
open C8 (pss_cut tCut)
abbrev sVisits : Stmt := top 50
theorem natsV_flat (ns : List Nat) : (natsV ns).all flatV = true := by
  unfold natsV
  rw [List.all_eq_true]
  intro x hx
  obtain ⟨z, _, rfl⟩ := List.mem_map.mp hx
  rfl
theorem natsV_in (ns : List Nat) (z : Nat) : inV (.int (z : Int)) (natsV ns) = decide (z ∈ ns) := by
  unfold natsV inV
  induction ns with
  | nil => rfl
  | cons n ns ih =>
    rw [List.map_cons, List.any_cons, ih]
    have : eqV (.int (n : Int)) (.int (z : Int)) = decide (z = n) := by
      show decide ((n : Int) = (z : Int)) = decide (z = n)
      by_cases e : z = n
      · subst e
        simp
      · have : ¬ (n : Int) = (z : Int) := by omega
        rw [decide_eq_false this, decide_eq_false e]
    rw [this]
    simp [List.mem_cons]
theorem natsV_snoc (ns : List Nat) (z : Nat) : natsV ns ++ [.int (z : Int)] = natsV (ns ++ [z]) := by
  unfold natsV
  rw [List.map_append]
  rfl
def spVisits (K : PySem.W.Frag) : Sp := fun vs H Q _ => ∃ (R St : Addr) (k : L2.Kind) (rows : List Rn) (st : List Nat), vs = [.ref R, .ref St] ∧ SideAt K H R rows ∧ Sk K k H St (natsV st) ∧ LF.TOk rows ∧ (∀ x ∈ st, x < rows.length) ∧ rows.length ≤ 48 ∧ st.length ≤ 100 ∧
  ∀ t H', H t = none → Same H H' → H' t = some (.lst (natsV (LF.ord rows st))) → Q (.ref t) H'
section
variable {P : Program} {w : World} {K : PySem.W.Frag} {mg : Str → Option Value} {base : Heap} {C : Addr}
theorem scVisits : FnScope ["_law_rows", "_law_starts", "_law_found", "_law_at", "_law_start_here", "_law_state"] ["_law_rows", "_law_starts"] (defScope sVisits) := ⟨rfl, rfl, rfl, by decide +kernel, rfl, by decide +kernel, by decide +kernel⟩
theorem ok_visits {f : Addr} {fd : FuncData} (F : Fun K "_law_m_visits" "_law_m_visits" sVisits f fd) (T : Txt K mg C) : FnOk P w K mg base CX0 1 f fd ["_law_rows", "_law_starts"] (spVisits K) := by
  refine F.ok scVisits (fun vs H Q E h => ?_) (fun cdv A0 outer s H vs Q E hr h => ?_)
  · obtain ⟨R, St, _, _, _, rfl, _⟩ := h
    rfl
  · obtain ⟨R, St, k, rows, st, rfl, hR, hS, ok, so, l48, l100, kk⟩ := h
    refine ⟨_, pss_cons (ps_par (i := 2) (j := 3) (by rfl) scVisits.nd rfl rfl (by decide) rfl rfl (pa_cons (pe_lst pa_nil) (pa_cons pe_int pa_nil)) (by rfl))
      (pss_cut (ps_for PassesOwn.never rfl (pi_sq (pv 1)) (pg_name (i := 4) scVisits.nd rfl (Or.inl rfl))
        (pss_one (ps_if (pt_cmpR op_notIn_seq (pv 4) (pv 2) rfl) (pss_one (ps_expr (pe_bm PySem.F.plainAttrs_list PySem.F.slot_list_append PySem.F.type_list_append mt_append (pv 2) (pa_cons (pv 4) pa_nil)))) pss_nil)))
      (pss_cons (ps_while PassesOwn.never (pt_cmpR op_lt (pv 3) (pe_callB call_len_seq (by rfl) T.len_ PySem.boot_len (pa_cons (pv 2) pa_nil)) (nomark _))
        (pss_cut (ps_for PassesOwn.never rfl (pi_tup (pe_tup (pa_cons (pe_ix (ix_list.or ix_tup) (pe_ix (ix_list.or ix_tup) (pv 0) (pe_ix ix_list (pv 2) (pv 3) (fun _ _ => rfl)) (fun _ _ => rfl)) pe_int (fun _ _ => rfl)) (pa_cons (pe_ix (ix_list.or ix_tup) (pe_ix (ix_list.or ix_tup) (pv 0) (pe_ix ix_list (pv 2) (pv 3) (fun _ _ => rfl)) (fun _ _ => rfl)) pe_int (fun _ _ => rfl)) pa_nil)))) (pg_name (i := 5) scVisits.nd rfl (Or.inl rfl))
          (pss_one (ps_if (pt_cmpR op_notIn_seq (pv 5) (pv 2) rfl) (pss_one (ps_expr (pe_bm PySem.F.plainAttrs_list PySem.F.slot_list_append PySem.F.type_list_append mt_append (pv 2) (pa_cons (pv 5) pa_nil)))) pss_nil)))
        (pss_one (ps_set (i := 3) scVisits.nd rfl (Or.inl rfl) (pe_op op_add (pv 3) pe_int)))))
      (pss_one (ps_ret (pv 2))))), ?_⟩
    refine ⟨Nat.zero_le _, fun W hW => ⟨_, _, rfl, ?_⟩⟩
    have sW := Same.new (o := .lst []) hW
    refine ⟨fun σ' H' => ∃ x4, σ' = [some (.ref R), some (.ref St), some (.ref W), some (.int 0), x4, none] ∧ Same H H' ∧ H' W = some (.lst (natsV (LF.uniq st))), ?_, ?_⟩
    · refine ⟨k, _, rfl, St, rfl, ⟨_, hS.up sW⟩, ?_⟩
      refine for_it (walk_k (K := K) (k := k) (a := St) (xs := natsV st)) (fun i σ' H' => ∃ x4, σ' = [some (.ref R), some (.ref St), some (.ref W), some (.int 0), x4, none] ∧ Same H H' ∧ H' W = some (.lst (natsV (LF.uniq (st.take i))))) ?_ ?_ ?_ ?_
      · exact ⟨_, rfl, sW, upd_same⟩
      · rintro i σ' H' _ ⟨_, _, s', _⟩
        exact hS.up s'
      · rintro i x _ H' _ hi ⟨x4, rfl, s', hw⟩ ⟨rfl, hx⟩
        unfold natsV at hx
        rw [List.getElem?_map, Option.map_eq_some_iff] at hx
        obtain ⟨z, hz, rfl⟩ := hx
        have hn : LF.uniq (st.take (i + 1)) = LF.push (LF.uniq (st.take i)) z := by rw [L2.take_succ' hz, LF.uniq_snoc]
        have hlu : (LF.uniq (st.take i)).length ≤ 100 := Nat.le_trans (LF.uniq_len _) (by rw [List.length_take]; omega)
        have hsz : (natsV (LF.uniq (st.take i))).length < sizeLine := by
          unfold natsV
          rw [List.length_map]
          exact Nat.lt_of_le_of_lt hlu (by decide)
        refine ⟨_, rfl, _, rfl, W, _, rfl, .inl (SqL.of hw), rfl, natsV_flat _, _, rfl, ?_⟩
        show ite ((!inV (V.int (z : Int)) (natsV (LF.uniq (st.take i)))) = true) _ _
        rw [natsV_in]
        by_cases hm : z ∈ LF.uniq (st.take i)
        · rw [decide_eq_true hm]
          refine iteF ⟨_, rfl, s', ?_⟩
          rw [hn]
          unfold LF.push
          rw [if_pos hm]
          exact hw
        · rw [decide_eq_false hm]
          refine iteT ⟨_, rfl, .inl ⟨rfl, _, SqL.of hw⟩, _, rfl, W, _, _, rfl, rfl, hw, hsz, _, rfl, fun c o e => ?_, ?_⟩
          · rw [upd_ne (ne_of_none e hW)]
            exact s' _ _ e
          · rw [hn]
            unfold LF.push
            rw [if_neg hm, upd_same, natsV_snoc]
      · rintro σ' H' ⟨x4, rfl, s', hw⟩
        have hl : (natsV st).length = st.length := by unfold natsV; rw [List.length_map]
        rw [hl, List.take_length] at hw
        exact ⟨_, rfl, s', hw⟩
    rintro _ H1 ⟨x4, rfl, s1, hw⟩
    refine ⟨fun m σ' H' => ∃ at' fnd x4 x5, σ' = [some (.ref R), some (.ref St), some (.ref W), some (.int ((at' : Nat) : Int)), x4, x5] ∧ Same H H' ∧ H' W = some (.lst (natsV fnd)) ∧ LF.VI rows (LF.ord rows st) at' fnd ∧ at' + m = rows.length, ⟨rows.length, 0, LF.uniq st, x4, none, rfl, s1, hw, .start ok so, Nat.zero_add _⟩, ?_⟩
    rintro m _ H2 ⟨at', fnd, x4, x5, rfl, s2, hw2, vi, hm⟩
    have hfl : (natsV fnd).length = fnd.length := by unfold natsV; rw [List.length_map]
    have hlen := vi.len
    refine ⟨_, rfl, _, rfl, W, _, rfl, .inl (SqL.of hw2), _, _, rfl, rfl, _, rfl, ifD_2 (fun hlt => ?_) (fun hge => ?_)⟩
    · have hlt' : at' < fnd.length := by omega
      refine ⟨fun σ' H' => ∃ m', m' < m ∧ ∃ (at' : Nat) (fnd : List Nat) (x4 x5 : Option V), σ' = [some (.ref R), some (.ref St), some (.ref W), some (.int ((at' : Nat) : Int)), x4, x5] ∧ Same H H' ∧ H' W = some (.lst (natsV fnd)) ∧ LF.VI rows (LF.ord rows st) at' fnd ∧ at' + m' = rows.length, fun _ _ h => h, ?_⟩
      obtain ⟨x, r, hx, hr, vi2⟩ := vi.step hlt'
      have hxx : atI (natsV fnd) ((at' : Nat) : Int) = some (V.int (x : Int)) := atI_nat (by unfold natsV; rw [List.getElem?_map, hx]; rfl)
      obtain ⟨k1, refs1, c1, k1', g1, g2, g3⟩ := (hR.same s2).row hr
      have g4 : atI (rv (rz r)) 0 = some (V.int (r.1 : Int)) := rfl
      have g5 : atI (rv (rz r)) 2 = some (V.int (r.2.2.1 : Int)) := rfl
      refine ⟨fun σ' H' => ∃ x5, σ' = [some (.ref R), some (.ref St), some (.ref W), some (.int ((at' : Nat) : Int)), x4, x5] ∧ Same H H' ∧ H' W = some (.lst (natsV (LF.push (LF.push fnd r.1) r.2.2.1))), ?_, ?_⟩
      · refine ⟨_, rfl, _, rfl, _, rfl, W, _, _, _, rfl, rfl, SqL.of hw2, hxx, ixk g1 g2 (ixk g3 g4 ⟨_, rfl, _, rfl, _, rfl, W, _, _, _, rfl, rfl, SqL.of hw2, hxx, ixk g1 g2 (ixk g3 g5 ⟨by show 2 ≤ sizeLine; decide, fun tp htp => ⟨tp, rfl, ⟨_, SqT.of upd_same⟩, ?_⟩⟩)⟩)⟩
        have st := Same.new (o := .tup [V.int (r.1 : Int), .int (r.2.2.1 : Int)]) htp
        refine for_tup (K := K) (a := tp) (xs := [V.int (r.1 : Int), .int (r.2.2.1 : Int)]) (fun j σ' H' => ∃ x5 fj, σ' = [some (.ref R), some (.ref St), some (.ref W), some (.int ((at' : Nat) : Int)), x4, x5] ∧ Same H H' ∧ H' W = some (.lst (natsV fj)) ∧ H' tp = some (.tup [V.int (r.1 : Int), .int (r.2.2.1 : Int)]) ∧ ((j = 0 ∧ fj = fnd) ∨ (j = 1 ∧ fj = LF.push fnd r.1) ∨ (j = 2 ∧ fj = LF.push (LF.push fnd r.1) r.2.2.1))) ?_ ?_ ?_ ?_
        · exact ⟨x5, fnd, rfl, s2.trans st, st _ _ hw2, upd_same, .inl ⟨rfl, rfl⟩⟩
        · rintro j σ' H' _ ⟨_, _, _, _, _, ht, _⟩
          exact SqT.of ht
        · rintro j x _ H3 hx3 ⟨x5, fj, rfl, s3, hw3, ht3, hj⟩
          obtain ⟨z, rfl, hz⟩ : ∃ z : Nat, x = .int (z : Int) ∧ ((j = 0 ∧ fj = fnd ∧ z = r.1) ∨ (j = 1 ∧ fj = LF.push fnd r.1 ∧ z = r.2.2.1)) := by
            rcases hj with ⟨rfl, rfl⟩ | ⟨rfl, rfl⟩ | ⟨rfl, rfl⟩
            · cases hx3; exact ⟨_, rfl, .inl ⟨rfl, rfl, rfl⟩⟩
            · cases hx3; exact ⟨_, rfl, .inr ⟨rfl, rfl, rfl⟩⟩
            · cases hx3
          have hfin : ((j + 1 = 0 ∧ LF.push fj z = fnd) ∨ (j + 1 = 1 ∧ LF.push fj z = LF.push fnd r.1) ∨ (j + 1 = 2 ∧ LF.push fj z = LF.push (LF.push fnd r.1) r.2.2.1)) := by
            rcases hz with ⟨rfl, rfl, rfl⟩ | ⟨rfl, rfl, rfl⟩
            · exact .inr (.inl ⟨rfl, rfl⟩)
            · exact .inr (.inr ⟨rfl, rfl⟩)
          have hpl : ∀ (l : List Nat) (y : Nat), (LF.push l y).length ≤ l.length + 1 := fun l y => by
            unfold LF.push
            split
            · omega
            · simp
          have hfjl : fj.length ≤ 49 := by
            rcases hz with ⟨_, rfl, _⟩ | ⟨_, rfl, _⟩
            · omega
            · have := hpl fnd r.1
              omega
          have hsz : (natsV fj).length < sizeLine := by
            unfold natsV
            rw [List.length_map]
            exact Nat.lt_of_le_of_lt hfjl (by decide)
          refine ⟨_, rfl, _, rfl, W, _, rfl, .inl (SqL.of hw3), rfl, natsV_flat _, _, rfl, ?_⟩
          show ite ((!inV (V.int (z : Int)) (natsV fj)) = true) _ _
          rw [natsV_in]
          by_cases hm : z ∈ fj
          · rw [decide_eq_true hm]
            refine iteF ⟨_, LF.push fj z, rfl, s3, ?_, ht3, hfin⟩
            unfold LF.push
            rw [if_pos hm]
            exact hw3
          · rw [decide_eq_false hm]
            refine iteT ⟨_, rfl, .inl ⟨rfl, _, SqL.of hw3⟩, _, rfl, W, _, _, rfl, rfl, hw3, hsz, _, LF.push fj z, rfl, fun c o e => ?_, ?_, ?_, hfin⟩
            · rw [upd_ne (ne_of_none e hW)]
              exact s3 _ _ e
            · unfold LF.push
              rw [if_neg hm, upd_same, natsV_snoc]
            · rw [upd_ne (ne_of ht3 hw3 (by intro z; cases z))]
              exact ht3
        · rintro σ' H3 ⟨x5, fj, rfl, s3, hw3, ht3, hj⟩
          rcases hj with ⟨h, _⟩ | ⟨h, _⟩ | ⟨_, rfl⟩
          · exact absurd h (by simp)
          · exact absurd h (by simp)
          · exact ⟨_, rfl, s3, hw3⟩
      rintro _ H3 ⟨x5, rfl, s3, hw3⟩
      have hlen2 := vi2.len
      have hle := vi2.pre
      refine ⟨_, rfl, _, _, rfl, rfl, ?_⟩
      exact ⟨m - 1, by omega, at' + 1, LF.push (LF.push fnd r.1) r.2.2.1, x4, x5, rfl, s3, hw3, vi2, by omega⟩
    · have hge' : fnd.length ≤ at' := by omega
      refine ⟨_, rfl, kk W H2 hW s2 ?_⟩
      rw [hw2, vi.done hge']
end
end PA

/-! a least form is numbered by its visit, and its states are apart -/
namespace LF
variable {L : Type} [DecidableEq L] {rows : List (Row L)} {starts : List Nat}
theorem ix_at {o : List Nat} (nd : o.Nodup) {i : Nat} (h : i < o.length) : ix o o[i] = i := ix_get nd (List.getElem?_eq_getElem h)
theorem nd_inj {o : List Nat} (nd : o.Nodup) {i j : Nat} (hi : i < o.length) (hj : j < o.length) (e : o[i] = o[j]) : i = j := by
  have h1 := ix_at nd hi
  have h2 := ix_at nd hj
  rw [e] at h1
  exact h1.symm.trans h2
theorem lf_apart (ok : TOk rows) (hs : ∀ s ∈ starts, s < rows.length) : Apart (lf rows starts).1 := by
  have mA := mg_ok ok
  have hb := b_lt hs
  have eA := ord_end mA hb
  intro i j hi hj h
  change i < (laid _ _).length at hi
  change j < (laid _ _).length at hj
  unfold laid at hi hj
  rw [laid_len _ eA.lt] at hi hj
  have mi := List.getElem_mem hi
  have mj := List.getElem_mem hj
  have e : (ord (mg rows) (starts.map (at_ (cls rows))))[i] = (ord (mg rows) (starts.map (at_ (cls rows))))[j] := by
    refine mg_apart ok _ _ (eA.lt _ mi) (eA.lt _ mj) fun w => ?_
    have q1 := laid_out mA hb w mi
    have q2 := laid_out mA hb w mj
    rw [ix_at eA.nd hi] at q1
    rw [ix_at eA.nd hj] at q2
    rw [← q1, ← q2]
    exact h w
  exact nd_inj eA.nd hi hj e
theorem ord_lf (ok : TOk rows) (hs : ∀ s ∈ starts, s < rows.length) : ord (lf rows starts).1 (lf rows starts).2 = List.range (lf rows starts).1.length := by
  have mA := mg_ok ok
  have hb := b_lt hs
  have eA := ord_end mA hb
  have pB := lf_apart ok hs
  have oB := laid_ok ok hs
  have ll : (lf rows starts).1.length = (ord (mg rows) (starts.map (at_ (cls rows)))).length := laid_len _ eA.lt
  have rr : ∀ x ∈ ord (mg rows) (starts.map (at_ (cls rows))), RR (mg rows) (lf rows starts).1 x (ix (ord (mg rows) (starts.map (at_ (cls rows)))) x) := fun x hx => by
    refine ⟨eA.lt x hx, ?_, fun w => (laid_out mA hb w hx).symm⟩
    rw [ll]
    exact (List.getElem?_eq_some_iff.mp (get_ix hx)).1
  have hF : F2 (RR (mg rows) (lf rows starts).1) (starts.map (at_ (cls rows))) (lf rows starts).2 := by
    refine F2.of (by show _ = (List.map _ _).length; rw [List.length_map, List.length_map]; rw [List.length_map]) fun i a b h1 h2 => ?_
    change (List.map _ (List.map _ starts))[i]? = some b at h2
    rw [List.getElem?_map, h1] at h2
    cases h2
    exact rr a (eA.all a (List.mem_of_getElem? h1))
  have ho := ord_sim mA oB (mg_apart ok) pB hF
  refine List.ext_getElem? fun i => ?_
  by_cases hi : i < (ord (mg rows) (starts.map (at_ (cls rows)))).length
  · have hi' : i < (ord (lf rows starts).1 (lf rows starts).2).length := by rw [← ho.len]; exact hi
    have r1 := ho.get (List.getElem?_eq_getElem hi) (List.getElem?_eq_getElem hi')
    have r2 := rr _ (List.getElem_mem hi)
    rw [ix_at eA.nd hi] at r2
    rw [List.getElem?_eq_getElem hi', List.getElem?_range (by rw [ll]; exact hi), rr_r pB r1 r2]
  · rw [List.getElem?_eq_none (by rw [← ho.len]; omega), List.getElem?_eq_none (by rw [List.length_range, ll]; omega)]
end LF

set_option maxHeartbeats 4000000
namespace PA
open PySem L2 RZ
open C8 (pss_cut tCut)
abbrev sLst : Stmt := top 51
theorem pe_fldF {X : Cx} {K : PySem.W.Frag} (hK : X.K = K) {e : PySem.Expr} {f : Str} {pos : Pos} {ta : TE} (h : PE X e ta) (h2 : attributeBase e f X.env (eval e X.env) = eval e X.env := by rfl) : PE X (e.Attribute f pos) (tFld K ta f) := by
  subst hK
  exact pe_fld h h2
theorem rg0 (n : Nat) : rgV 0 ((n : Nat) : Int) = natsV (List.range n) := by
  unfold rgV natsV
  rw [show (((n : Nat) : Int) - 0).toNat = n by omega]
  simp
theorem RuleZ.side {K : PySem.W.Frag} {C : Addr} {H : Hp} {p : Addr} {rn : List Rn} {st : List Nat} {k : Int} (h : RuleZ K C H p rn st k) : ∃ dx R S refs, H p = some (.ins C dx (rf R S k)) ∧ H R = some (.tup refs) ∧ refs.length = rn.length ∧ SideAt K H R rn ∧ SqT K H S (natsV st) := by
  obtain ⟨dx, R, S, refs, h1, h2, h3, h4⟩ := h
  have hl : refs.length = rn.length := by have := h3.1; rw [List.length_map] at this; exact this
  refine ⟨dx, R, S, refs, h1, h2, hl, ⟨.t, refs, SqT.of h2, .t, hl, fun i x r hx hr => ?_⟩, by rw [natsV_ints]; exact h4⟩
  obtain ⟨c, hc, q⟩ := h3.2 i x (rz r) hx (by rw [List.getElem?_map, hr]; rfl)
  exact ⟨c, hc, SqT.of q⟩
def spLst (K : PySem.W.Frag) (C : Addr) : Sp := fun vs H Q _ => ∃ (p : Addr) (rn : List Rn) (st : List Nat) (k : Int), vs = [.ref p] ∧ RuleZ K C H p rn st k ∧ LF.TOk rn ∧ (∀ x ∈ st, x < rn.length) ∧ rn.length ≤ 48 ∧ st.length ≤ 100 ∧ LF.ord rn st = List.range rn.length ∧ LF.Apart rn ∧
  ∀ H', Same H H' → Q (.bl true) H'
section
variable {P : Program} {w : World} {K : PySem.W.Frag} {mg : Str → Option Value} {base : Heap} {C : Addr}
theorem scLst : FnScope ["_law_rule", "_law_many", "_law_one", "_law_other"] ["_law_rule"] (defScope sLst) := ⟨rfl, rfl, rfl, by decide +kernel, rfl, by decide +kernel, by decide +kernel⟩
theorem ok_lst {f g1 g2 g3 : Addr} {fd gd1 gd2 gd3 : FuncData} (F : Fun K "_law_m_least" "_law_m_least" sLst f fd) (T : Txt K mg C) (D1 : Df K mg "_law_m_visits" sVisits g1 gd1 ["_law_rows", "_law_starts"]) (D2 : Df K mg "_law_m_unlike" sUnlike g2 gd2 ["_law_one", "_law_other", "_law_pairs"]) (D3 : Df K mg "_law_m_after" sAft g3 gd3 ["_law_row", "_law_behind"]) : FnOk P w K mg base CX0 3 f fd ["_law_rule"] (spLst K C) := by
  have G1 : FnOk P w K mg base CX0 1 g1 gd1 ["_law_rows", "_law_starts"] (spVisits K) := ok_visits D1.F T
  have G2 : FnOk P w K mg base CX0 2 g2 gd2 ["_law_one", "_law_other", "_law_pairs"] (spUnlike K) := ok_unlike D2.F T D3
  refine F.ok scLst (fun vs H Q E h => ?_) (fun cdv A0 outer s H vs Q E hr h => ?_)
  · obtain ⟨p, _, _, _, rfl, _⟩ := h
    rfl
  · obtain ⟨p, rn, st, k, rfl, hp, ok, so, l48, l100, ho, ha, kk⟩ := h
    have hr1 : Room 1 _ := hr.mono (by decide)
    refine ⟨_, pss_cons (ps_set (i := 1) scLst.nd rfl (Or.inl rfl) (pe_callB call_len_seq (by rfl) T.len_ PySem.boot_len (pa_cons (pe_fld (pv 0) rfl) pa_nil)))
      (pss_cons (ps_if (pt_cmpR (op_neD hr.units) (pe_call G1 hr1 rfl D1.M D1.F.kp D1.B .nil pass0 (pa_cons (pe_fld (pv 0) rfl) (pa_cons (pe_fld (pv 0) rfl) pa_nil))) (pe_listRg (by rfl) (by rfl) T.list_ (prg_1 (by rfl) T.range_ (pv 1))) (nomark _)) pss_never pss_nil)
      (pss_cons (ps_for PassesOwn.never rfl (pi_range1 (by rfl) T.range_ (pa_cons (pv 1) pa_nil)) (pg_name (i := 2) scLst.nd rfl (Or.inr rfl))
        (pss_one (ps_if (pt_not (pt_val (pe_callB (cr_all rfl) (by rfl) T.all_ boot_all' (pa_cons (pe_lc (own := [("_law_other", 3)]) (g := gName 3) (tt := tYes) (by rfl) scLst.nd (pi_range1 (by rfl) T.range_ (pa_cons (pv 2) pa_nil)) (blkOk_by (N := ["_law_rule", "_law_many", "_law_one", "_law_other"]) (sc := defScope sLst) (by decide +kernel))
            (fun _ _ _ _ _ => pg_name (i := 3) scLst.nd rfl (Or.inl rfl)) (fun _ _ _ _ _ => pts_nil)
            (fun _ _ _ _ _ => pe_call G2 hr rfl D2.M D2.F.kp D2.B .nil pass0 (pa_cons (pe_fldF (K := K) rfl (pv 0)) (pa_cons (pe_fldF (K := K) rfl (pv 0)) (pa_cons (pe_lst (pa_cons (pe_tup (pa_cons (pv 2) (pa_cons (pv 3) pa_nil))) pa_nil)) pa_nil))))) pa_nil)))) pss_never pss_nil)))
      (pss_one (ps_ret pe_bl)))), ?_⟩
    obtain ⟨dx, R, S, refs, hpo, hR, hlr, hside, hS⟩ := hp.side
    refine ⟨_, rfl, p, C, dx, _, _, rfl, hpo, T.cl, T.nR, rf_rows _ _ _, R, _, rfl, .inr (SqT.of hR), ?_⟩
    rw [hlr]
    refine ⟨_, rfl, p, C, dx, _, _, rfl, hpo, T.cl, T.nR, rf_rows _ _ _, _, rfl, p, C, dx, _, _, rfl, hpo, T.cl, T.nS, rf_starts _ _ _, R, S, .t, rn, st, rfl, hside, hS, ok, so, l48, l100, fun t H1 _ s1 ht => ?_⟩
    refine ⟨_, rfl, _, rfl, ⟨by decide, by decide, by omega, by omega, by omega⟩, fun q hq => ?_⟩
    have eq_ := Same.new (o := .lst (rgV 0 ((rn.length : Nat) : Int))) hq
    have ht2 := eq_ _ _ ht
    have hq2 : (upd H1 q (.lst (rgV 0 ((rn.length : Nat) : Int)))) q = some (.lst (rgV 0 ((rn.length : Nat) : Int))) := upd_same
    have s2 := s1.trans eq_
    generalize (upd H1 q (.lst (rgV 0 ((rn.length : Nat) : Int)))) = H2 at ht2 hq2 s2 ⊢
    rw [rg0, natsV_ints] at hq2
    rw [ho, natsV_ints] at ht2
    generalize hz : (List.range rn.length).map (fun (n : Nat) => ((n : Nat) : Int)) = zs at hq2 ht2
    refine ⟨.list (zs.map PyData.int), .list (zs.map PyData.int), .lst (SqL.of ht2) (dp_ints zs), .lst (SqL.of hq2) (dp_ints zs), ints_shaped zs, ints_shaped zs, ?_⟩
    rw [ints_eqv, decide_eq_true rfl]
    refine ⟨_, rfl, iteF ?_⟩
    refine ⟨_, rfl, ((rn.length : Nat) : Int), rfl, by omega, by omega, ?_⟩
    refine for_range (n := (((rn.length : Nat) : Int)).toNat) (fun i σ' H' => ∃ x2, σ' = [some (.ref p), some (.int ((rn.length : Nat) : Int)), x2, none] ∧ Same H H') ?_ ?_ ?_
    · exact ⟨_, rfl, s2⟩
    · rintro i _ H3 hi ⟨x2, rfl, s3⟩
      have hi' : i < rn.length := by omega
      have hpo3 := s3 _ _ hpo
      refine ⟨_, rfl, (0 + (i : Int)), rfl, by omega, by omega, fun Dd hD => ?_⟩
      refine lc_range (n := (0 + (i : Int)).toNat) (fun j H' => Same H3 H' ∧ H' Dd = some (.lst ((List.replicate j true).map V.bl))) ⟨Same.new hD, upd_same⟩ ?_ ?_
      · rintro j H4 hj ⟨s4, hd⟩
        have hj' : j < i := by omega
        have hpo4 := s4 _ _ hpo3
        refine ⟨rfl, ?_⟩
        dsimp only [tYes]
        rw [if_pos rfl]
        refine ⟨_, rfl, p, C, dx, _, _, rfl, hpo4, T.cl, T.nR, rf_rows _ _ _, _, rfl, p, C, dx, _, _, rfl, hpo4, T.cl, T.nR, rf_rows _ _ _, _, rfl, _, rfl, by show 2 ≤ sizeLine; decide, fun tp htp => ⟨by show 1 ≤ sizeLine; decide, fun lp hlp => ?_⟩⟩
        have e1 := Same.new (o := .tup [V.int (0 + (i : Int)), .int (0 + (j : Int))]) htp
        have e2 := Same.new (o := .lst [V.ref tp]) hlp
        have hP : isP (upd H4 tp (.tup [V.int (0 + (i : Int)), .int (0 + (j : Int))])) tp (i, j) := by
          show (upd H4 tp (.tup [V.int (0 + (i : Int)), .int (0 + (j : Int))])) tp = some (.tup [V.int (i : Int), .int (j : Int)])
          rw [upd_same, Int.zero_add, Int.zero_add]
        have s35 := s3.trans (s4.trans (e1.trans e2))
        refine ⟨R, R, lp, rn, rn, [(i, j)], [.ref tp], rfl, hside.same s35, hside.same s35, ok, ok, l48, l48, upd_same, Ea.push (xs := []) (ds := []) Ea.nil (e2 _ _ hP), by show 1 ≤ 20; decide, fun q hq => by cases List.mem_singleton.mp hq; exact ⟨hi', by show j < rn.length; omega⟩, fun b H5 s5 hb => ?_⟩
        have hbt : b = true := hb.mpr fun g => by
          have := ha i j hi' (by omega) (g (i, j) (List.mem_singleton.mpr rfl))
          omega
        subst hbt
        refine ⟨(List.replicate j true).map V.bl, s5 _ _ (e2 _ _ (e1 _ _ hd)), ?_, ?_, ?_⟩
        · rw [List.length_map, List.length_replicate]
          exact Nat.lt_of_lt_of_le (by omega : j < 49) (by decide)
        · intro c o e
          rw [upd_ne (ne_of_none e hD)]
          exact s5 _ _ (e2 _ _ (e1 _ _ (s4 _ _ e)))
        · rw [upd_same, List.replicate_succ', List.map_append]
          rfl
      · rintro H4 ⟨s4, hd⟩
        refine ⟨Dd, _, rfl, SqL.of hd, ?_⟩
        have ea : (List.replicate (0 + (i : Int)).toNat true).all id = true := by
          rw [List.all_eq_true]
          intro x hx
          rw [(List.mem_replicate.mp hx).2]
          rfl
        rw [ea]
        exact ⟨_, rfl, iteF ⟨_, rfl, s3.trans s4⟩⟩
    · rintro σ' H3 ⟨x2, rfl, s3⟩
      exact kk H3 s3
end
end PA

namespace PA.N
open PySem PySem.Spec PyProof.Rows L2
/-- how a clause's turn begins; k: what follows its tests -/
def headOf (tg : Expr) (at_ : Pos) (ifs : List Expr) (it : Value) (env : Env) (k : Bool → Sem Fin) : Sem Fin := do
  standAt at_
  match ← pyNext it with
  | none => pure (.done .next)
  | some v =>
    letOwnedTupleGo tg it v
    assign tg env v
    let ok ← forIn ifs true fun c r =>
      if r = true then (do let ok ← isTrue c env (eval c env); pure (ForInStep.yield ok)) else pure (ForInStep.yield r)
    k ok
/-- the last clause's -/
def tailIn (c elt : Expr) (d : Nat) (it acc : Value) (env : Env) : Sem Fin := do
  (do let _ ← call (.builtin "list.append") [acc, ← eval elt env])
  again (.compLoop c d it acc env)
/-- another one's -/
def tailOut (c i1 : Expr) (d : Nat) (it acc : Value) (env : Env) : Sem Fin := do
  let x ← eval i1 env
  standAt i1.pos
  let x ← foldedSetIterable i1 env x
  let _ ← runOwn (.compStart c (d + 1) (← holding [x] (pyIter x)) acc env) env
  again (.compLoop c d it acc env)
def turnOf (c : Expr) (d : Nat) (tg : Expr) (at_ : Pos) (ifs : List Expr) (tail : Sem Fin) (it acc : Value) (env : Env) : Prop :=
  compTurn c d it acc env = headOf tg at_ ifs it env fun ok => if ok then tail else again (.compLoop c d it acc env)
section
variable {elt t0 i0 t1 i1 t2 i2 : Expr} {f0 f1 f2 : List Expr} {scope : Scope} {pos : Pos} {it acc : Value} {env : Env}
theorem turn0 : turnOf (.ListComp elt [⟨t0, i0, f0, 0⟩, ⟨t1, i1, f1, 0⟩, ⟨t2, i2, f2, 0⟩] scope pos) 0 t0 i0.pos f0 (tailOut (.ListComp elt [⟨t0, i0, f0, 0⟩, ⟨t1, i1, f1, 0⟩, ⟨t2, i2, f2, 0⟩] scope pos) i1 0 it acc env) it acc env := by rfl
theorem turn1 : turnOf (.ListComp elt [⟨t0, i0, f0, 0⟩, ⟨t1, i1, f1, 0⟩, ⟨t2, i2, f2, 0⟩] scope pos) 1 t1 i1.pos f1 (tailOut (.ListComp elt [⟨t0, i0, f0, 0⟩, ⟨t1, i1, f1, 0⟩, ⟨t2, i2, f2, 0⟩] scope pos) i2 1 it acc env) it acc env := by rfl
theorem turn2 : turnOf (.ListComp elt [⟨t0, i0, f0, 0⟩, ⟨t1, i1, f1, 0⟩, ⟨t2, i2, f2, 0⟩] scope pos) 2 t2 i2.pos f2 (tailIn (.ListComp elt [⟨t0, i0, f0, 0⟩, ⟨t1, i1, f1, 0⟩, ⟨t2, i2, f2, 0⟩] scope pos) elt 2 it acc env) it acc env := by rfl
end
section
variable {M : Model} {A : Around} {R : Result → Shared → Prop} {s : Shared} {elt tg : Expr} {gens : List Comprehension} {scope : Scope} {pos : Pos} {d : Nat} {at_ : Pos} {ifs : List Expr} {tail : Sem Fin} {it acc : Value} {env : Env} {prog : Program} {w : World}
theorem loopN (hq : turnOf (.ListComp elt gens scope pos) d tg at_ ifs tail it acc env) (I : Nat → Shared → Prop)
    (step : ∀ n s, I n s → wpAny (model prog w) A (pyNext it) (fun r s1 => match r with
      | none => R (.ok .next) s1
      | some v => wpAny (model prog w) A (letOwnedTupleGo tg it v)
          (fun _ s2 => wpAny (model prog w) A (assign tg env v)
            (fun _ s3 => wpAny (model prog w) A (forIn ifs true fun c r =>
                if r = true then (do let ok ← isTrue c env (eval c env); pure (ForInStep.yield ok)) else pure (ForInStep.yield r))
              (fun ok s4 => if ok = true
                then wpAny (model prog w) A tail (fun fin s5 => fin = .again (.compLoop (.ListComp elt gens scope pos) d it acc env) ∧ ∃ m, m < n ∧ I m s5) (fun _ _ => False) s4
                else ∃ m, m < n ∧ I m s4) (fun _ _ => False) s3) (fun _ _ => False) s2) (fun _ _ => False) s1) (fun _ _ => False) s)
    (n : Nat) (h : I n s) : codeAny (model prog w) A (.compLoop (.ListComp elt gens scope pos) d it acc env) R s := by
  refine codeAny_loop rfl I (fun n s hI => ?_) n h
  have key : wpAny (model prog w) A (compTurn (.ListComp elt gens scope pos) d it acc env) (fun fin s' => match fin with
      | .done f => R (.ok f) s'
      | .again c' => c' = .compLoop (.ListComp elt gens scope pos) d it acc env ∧ ∃ m, m < n ∧ I m s') (fun _ _ => False) s := by
    rw [show compTurn (.ListComp elt gens scope pos) d it acc env = _ from hq]
    unfold headOf
    refine wpAny_bind (wpAny_standAt (wpAny_bind (thn (step n s hI) fun r s1 h1 => ?_)))
    cases r with
    | none => exact wpAny_pure h1
    | some v =>
      refine wpAny_bind (thn h1 fun _ s2 h2 => wpAny_bind (thn h2 fun _ s3 h3 => wpAny_bind (thn h3 fun ok s4 h4 => ?_)))
      cases ok with
      | false => exact wpAny_pure ⟨rfl, h4⟩
      | true =>
        refine thn h4 fun fin s5 h5 => ?_
        obtain ⟨rfl, h5⟩ := h5
        exact ⟨rfl, h5⟩
  have fin := wpAny_noted (env := env) (E := fun e s' => R (.error e) s') (wpAny_mono key (fun _ _ q => q) fun _ _ z => z.elim)
  exact fin
theorem startN {g : Comprehension} (hg : gens[d]? = some g) (ha : (g.is_async != 0) = false)
    (h0 : codeAny (model prog w) A (.compLoop (.ListComp elt gens scope pos) d it acc env) R s)
    (h1 : wpAny (model prog w) A (pyIter it) (fun x s' => codeAny (model prog w) A (.compLoop (.ListComp elt gens scope pos) d x acc env) R s') (fun _ _ => False) s) :
    codeAny (model prog w) A (.compStart (.ListComp elt gens scope pos) d it acc env) R s := by
  refine codeAny_of_tree ?_
  have key : wpAny (model prog w) A (compStart (.ListComp elt gens scope pos) d it acc env)
      (fun fin s' => match fin with
        | .done f => R (.ok f) s'
        | .again c' => c'.quiet = true ∧ codeAny (model prog w) A c' R s') (fun _ _ => False) s := by
    unfold compStart
    have e : (clausesOf (.ListComp elt gens scope pos))[d]? = some g := hg
    rw [e]
    show wpAny _ _ (if (g.is_async != 0) = true then _ else _) _ _ s
    rw [ha]
    refine wpAny_ite ?_
    rw [if_neg Bool.false_ne_true]
    refine wpAny_bind (wpAny_askSetting (wpAny_ite ?_))
    split
    · exact wpAny_bind (wpAny_pure (wpAny_pure ⟨rfl, h0⟩))
    · refine wpAny_bind (wpAny_rule (wpAny_bind (wpAny_standAt (wpAny_bind (thn h1 fun x s' q => wpAny_pure ⟨rfl, q⟩)))))
  have fin := wpAny_notedAt (env := env) (pos := theWindowsPlace) (E := fun e s' => R (.error e) s') (wpAny_mono key (fun _ _ q => q) fun _ _ z => z.elim)
  exact fin
end
/-- what comes behind a clause's tests, in a block's context -/
abbrev TBd := L2.St → Hp → (Hp → Prop) → Prop
section
variable {Y : Cx} {elt tg : Expr} {gens : List Comprehension} {scope : Scope} {pos : Pos} {d : Nat} {at_ : Pos} {ifs : List Expr} {tail : Sem Fin} {D : Addr}
/-- this tail keeps its promise, the slots vs are free behind it -/
def TailOk (Y : Cx) (c : Code) (tail : Sem Fin) (tb : TBd) (vs : List Nat) : Prop := ∀ (pins : List (Addr × Obj)) (s : Shared) (σ : L2.St) (H : Hp) (Nx : Hp → Prop), Inv Y pins σ H s → tb σ H Nx →
  wpAny (model Y.prog Y.w) Y.A tail (fun fin s' => fin = .again c ∧ ∃ H', Inv Y pins (wipe σ vs) H' s' ∧ Nx H') (fun _ _ => False) s
/-- a loop of a clause, from what holds of its turns -/
theorem loopY {it : Addr} {fp : List Addr} {tn : Nat → Heap → Prop} {J : It} {g : TG} {tt : TT} {tb : TBd} {vs ws : List Nat} (hq : turnOf (.ListComp elt gens scope pos) d tg at_ ifs tail (.ref it) (.ref D) Y.env)
    (hc : Y.calm = true) (hx : Y.xe = fun _ _ => False) (T : Turn Y.prog Y.w Y.K tg J fp it tn) (pg : PG Y tg g) (pt : PTs Y ifs tt) (tl : TailOk Y (.compLoop (.ListComp elt gens scope pos) d (.ref it) (.ref D) Y.env) tail tb vs) (hv : ∀ i ∈ vs, i ∈ ws)
    {σ : L2.St} {W : Nat → Nat → Hp → Prop} {Z : Hp → Prop}
    (turn : ∀ i m H, W i m H → (J.stop i H ∧ Z H) ∨ (J.go i H ∧ ∃ Nx : Hp → Prop, (∀ H', Nx H' → ∃ m', m' < m ∧ W (i + 1) m' H') ∧ ∀ x H', J.yld i H x H' → g x (wipe σ ws) H' fun σ2 H2 => wipe σ2 ws = wipe σ ws ∧ tt σ2 H2 fun b H3 => if b = true then tb σ2 H3 Nx else Nx H3))
    {pins : List (Addr × Obj)} {s : Shared} {H : Hp} {m : Nat} (I : Inv Y pins (wipe σ ws) H s) (st : tn 0 s.heap) (hf : ∀ b ∈ fp, FpOk Y pins H b) (w0 : W 0 m H) :
    codeAny (model Y.prog Y.w) Y.A (.compLoop (.ListComp elt gens scope pos) d (.ref it) (.ref D) Y.env) (fun r s' => r = .ok .next ∧ ∃ H', Inv Y pins (wipe σ ws) H' s' ∧ Z H') s := by
  have ff : ∀ {H' : Hp}, (∀ b ∈ fp, H' b = none) → ∀ b ∈ fp, FpOk Y pins H' b := fun n b hb => ⟨n b hb, (hf b hb).2⟩
  refine loopN hq (fun n s' => ∃ i H', Inv Y pins (wipe σ ws) H' s' ∧ tn i s'.heap ∧ (∀ b ∈ fp, H' b = none) ∧ W i n H') ?_ m ⟨0, H, I, st, fun b hb => (hf b hb).1, w0⟩
  rintro n s1 ⟨i, H1, I1, st1, n1, w1⟩
  rcases turn i n H1 w1 with ⟨stop, z⟩ | ⟨go, Nx, hNx, step⟩
  · refine thnF (T.done Y rfl rfl rfl hc i pins s1 _ H1 (fun _ _ => False) I1 (ff n1) st1 stop) fun r s2 q => ?_
    obtain ⟨rfl, I2⟩ := q
    exact ⟨rfl, H1, I2, z⟩
  · refine thnF (T.item Y rfl rfl rfl hc i pins s1 _ H1 (fun _ _ => False) I1 (ff n1) st1 go) fun r s2 q => ?_
    obtain ⟨u, rfl, q⟩ := q
    refine thnF q fun _ s3 q3 => ?_
    obtain ⟨x, H3, I3, r3, y3, st3, n3⟩ := q3
    have I4 := I3.pinned (ff n3) (T.obj _ _ st3)
    have back : ∀ {σ' : L2.St} {s' : Shared} {H' : Hp}, Inv Y (pins ++ pinsAt fp s3.heap) σ' H' s' → σ'.length = (wipe σ ws).length → (∀ (j : Nat) v, (wipe σ ws)[j]? = some (some v) → σ'[j]? = some (some v)) → Nx H' →
        ∃ m, m < n ∧ ∃ i H', Inv Y pins (wipe σ ws) H' s' ∧ tn i s'.heap ∧ (∀ b ∈ fp, H' b = none) ∧ W i m H' := by
      intro σ' s' H' I' hl hk nx
      obtain ⟨m', hm, w'⟩ := hNx H' nx
      have at' : ∀ b ∈ fp, ∀ o, s3.heap.get? b = some o → s'.heap.get? b = some o ∧ H' b = none := fun b hb o e => by
        obtain ⟨z1, z2, _⟩ := I'.pin (b, o) (List.mem_append_right _ (List.mem_append_right _ (mem_pinsAt hb e)))
        exact ⟨z1, z2⟩
      refine ⟨m', hm, i + 1, H', I'.unpinned.weak hl.symm hk, T.keep _ _ _ st3 (fun b hb o e => (at' b hb o e).1), fun b hb => ?_, w'⟩
      obtain ⟨o, e, _⟩ := T.obj _ _ st3 b hb
      exact (at' b hb o e).2
    have rg := pg.run _ s3 _ H3 x u _ I4 r3 (step x H3 y3)
    rw [hx] at rg
    refine thn rg fun _ s4 q4 => ?_
    · obtain ⟨σ4, H4, I5, hw, q4⟩ := q4
      have rt := pt.run _ s4 σ4 H4 _ I5 q4
      rw [hx] at rt
      refine thn rt fun b s5 q5 => ?_
      · obtain ⟨H5, I6, q5⟩ := q5
        have l4 : σ4.length = (wipe σ ws).length := by rw [← hw, wipe_length]
        have k4 : ∀ (j : Nat) v, (wipe σ ws)[j]? = some (some v) → σ4[j]? = some (some v) ∧ j ∉ ws := fun j v e => by
          rw [← hw] at e
          exact wipe_some e
        cases b with
        | false =>
          rw [if_neg Bool.false_ne_true] at q5 ⊢
          exact back I6 l4 (fun j v e => (k4 j v e).1) q5
        | true =>
          rw [if_pos rfl] at q5 ⊢
          refine thn (tl _ s5 σ4 H5 Nx I6 q5) fun fin s6 q6 => ?_
          obtain ⟨e6, H6, I7, nx⟩ := q6
          refine ⟨e6, back I7 (by rw [wipe_length, l4]) (fun j v e => ?_) nx⟩
          obtain ⟨e1, e2⟩ := k4 j v e
          rw [wipe_out fun z => e2 (hv j z)]
          exact e1
/-- the last clause's end: the new item -/
def tbIn (te : TE) (D : Addr) : TBd := fun σ H Nx => te σ H fun y H1 => ∃ acc, H1 D = some (.lst acc) ∧ acc.length < sizeLine ∧ Nx (upd H1 D (.lst (acc ++ [y])))
theorem tail_in {te : TE} {it : Value} (hx : Y.xe = fun _ _ => False) (he : PE Y elt te) : TailOk Y (.compLoop (.ListComp elt gens scope pos) d it (.ref D) Y.env) (tailIn (.ListComp elt gens scope pos) elt d it (.ref D) Y.env) (tbIn te D) [] := by
  intro pins s σ H Nx I h
  unfold tailIn
  have r1 := he.run pins s σ H _ I h
  rw [hx] at r1
  refine wpAny_bind (wpAny_bind (thn r1 fun u s1 q => ?_))
  obtain ⟨y, H1, I1, ry, acc, hD, hz, nx⟩ := q
  refine wpAny_bind (app_ok I1 hD hz ry fun s2 I2 => ?_)
  exact wpAny_pure (wpAny_pure ⟨rfl, _, I2, nx⟩)
/-- a clause within: its own loop -/
def tbOut (wi : TI) (g : TG) (tt : TT) (tb : TBd) (ws : List Nat) : TBd := fun σ H Nx => wi σ H fun J H1 => ∃ W : Nat → Nat → Hp → Prop, (∃ m, W 0 m H1) ∧ ∀ j k H, W j k H →
  (J.stop j H ∧ Nx H) ∨ (J.go j H ∧ ∃ Nx1 : Hp → Prop, (∀ H', Nx1 H' → ∃ k', k' < k ∧ W (j + 1) k' H') ∧ ∀ x H', J.yld j H x H' → g x (wipe σ ws) H' fun σ2 H2 => wipe σ2 ws = wipe σ ws ∧ tt σ2 H2 fun b H3 => if b = true then tb σ2 H3 Nx1 else Nx1 H3)
theorem tail_out {i1 : Expr} {it : Value} {at1 : Pos} {ifs1 : List Expr} {tg1 : Expr} {tail1 : Addr → Sem Fin} {gg : Comprehension} {wi : TI} {g : TG} {tt : TT} {tb : TBd} {vs ws : List Nat} (hc : Y.calm = true) (hx : Y.xe = fun _ _ => False) (hg : gens[d + 1]? = some gg) (ha : (gg.is_async != 0) = false)
    (hq : ∀ it1 : Addr, turnOf (.ListComp elt gens scope pos) (d + 1) tg1 at1 ifs1 (tail1 it1) (.ref it1) (.ref D) Y.env) (hi : PI Y tg1 i1 wi) (pg : PG Y tg1 g) (pt : PTs Y ifs1 tt) (hs : ∀ x, foldedSetIterable i1 Y.env x = pure x)
    (tl : ∀ it1 : Addr, TailOk Y (.compLoop (.ListComp elt gens scope pos) (d + 1) (.ref it1) (.ref D) Y.env) (tail1 it1) tb vs) (hv : ∀ i ∈ vs, i ∈ ws) :
    TailOk Y (.compLoop (.ListComp elt gens scope pos) d it (.ref D) Y.env) (tailOut (.ListComp elt gens scope pos) i1 d it (.ref D) Y.env) (tbOut wi g tt tb ws) ws := by
  intro pins s σ H Nx I h
  unfold tailOut
  have r1 := hi.run pins s σ H _ I h
  rw [hx] at r1
  refine wpAny_bind (thn r1 fun v s1 h1 => wpAny_bind (wpAny_standAt (wpAny_bind (wpAny_of_eq (hs v) (wpAny_bind (wpAny_holding (thn h1 fun itv s2 h2 => ?_)))))))
  obtain ⟨it1, fp1, tn1, J1, H2, rfl, I2, T1, st1, f1, W1, ⟨m1, w1⟩, turn1⟩ := h2
  have loop := loopY (hq it1) hc hx T1 pg pt (tl it1) hv turn1 (I2.weak (wipe_length _ _) fun j v e => (wipe_some e).1) st1 f1 w1
  refine wpAny_bind (wpAny_runOwn ?_)
  rw [Around.mark_none]
  refine codeAny_mono (startN hg ha loop (T1.self Y.A 0 _ _ _ st1 loop)) fun r s3 q => ?_
  obtain ⟨rfl, H3, I3, nx⟩ := q
  exact wpAny_pure ⟨rfl, H3, I3, nx⟩
end
/-- [elt for tg in iter if .. ..]: tb tells the clauses behind the first one's tests, by the new list -/
def tLcN (wi : TI) (g : TG) (tt : TT) (tb : Addr → TBd) (ws : List Nat) : TE := fun σ H Q => wi σ H fun J H1 => ∀ D, H1 D = none →
  ∃ W : Nat → Nat → Hp → Prop, (∃ m, W 0 m (upd H1 D (.lst []))) ∧ ∀ i m H, W i m H →
    (J.stop i H ∧ Q (.ref D) H) ∨
    (J.go i H ∧ ∃ Nx : Hp → Prop, (∀ H', Nx H' → ∃ m', m' < m ∧ W (i + 1) m' H') ∧
      ∀ x H', J.yld i H x H' → g x (wipe σ ws) H' fun σ2 H2 => wipe σ2 ws = wipe σ ws ∧ tt σ2 H2 fun b H3 => if b = true then tb D σ2 H3 Nx else Nx H3)
section
variable {X : Cx} {elt tg iter : Expr} {ifs : List Expr} {rest : List Comprehension} {scope : Scope} {pos : Pos} {own : List (Str × Nat)} {wi : TI} {g : TG} {tt : TT} {tb : Addr → TBd} {vs : List Nat} {tail : Addr → Addr → Env → Sem Fin}
/-- what a block of clauses is to bring -/
structure BlkN (X : Cx) (elt tg iter : Expr) (ifs : List Expr) (rest : List Comprehension) (scope : Scope) (pos : Pos) (own : List (Str × Nat)) (wi : TI) (g : TG) (tt : TT) (tb : Addr → TBd) (vs : List Nat) (tail : Addr → Addr → Env → Sem Fin) : Prop where
  calm : X.calm = true
  nd : X.N.Nodup
  it : PI X tg iter wi
  ok : BlkOk X.N X.env.scope scope own
  sub : ∀ i ∈ vs, i ∈ own.map (·.2)
  eq_ : ∀ (a D : Addr) (env : Env), turnOf (.ListComp elt (⟨tg, iter, ifs, 0⟩ :: rest) scope pos) 0 tg iter.pos ifs (tail a D env) (.ref a) (.ref D) env
  tg_ : ∀ s H C cl fp, PG (X.blk s H scope (compEnvC scope cl C X.env) fp) tg g
  ts : ∀ s H C cl fp, PTs (X.blk s H scope (compEnvC scope cl C X.env) fp) ifs tt
  tl : ∀ s H C cl fp a D, TailOk (X.blk s H scope (compEnvC scope cl C X.env) fp) (.compLoop (.ListComp elt (⟨tg, iter, ifs, 0⟩ :: rest) scope pos) 0 (.ref a) (.ref D) (compEnvC scope cl C X.env)) (tail a D (compEnvC scope cl C X.env)) (tb D) vs
  fold : ∀ x, foldedSetIterable iter X.env x = pure x
theorem coreN {pins : List (Addr × Obj)} {s : Shared} {σ : L2.St} {H : Hp} {Q : VK} {pos' : Pos} {use : Option (Value → Sem Unit)} {Qf : Value → Shared → Prop}
    (B : BlkN X elt tg iter ifs rest scope pos own wi g tt tb vs tail) (I : Inv X pins σ H s) (h : tLcN wi g tt tb (own.map (·.2)) σ H Q)
    (hR : ∀ D C s' m H', Inv X pins σ H' s' → Q (.ref D) H' → s'.heap.Ns C m → FpOk X pins H' C → compPost (model X.prog X.w) X.A X.xe use Qf (.ref D) C (.ok .next) s') :
    wpAny (model X.prog X.w) X.A
      (comprehension (.ListComp elt (⟨tg, iter, ifs, 0⟩ :: rest) scope pos) scope X.env pos' (newList []) false (eval iter X.env) use) Qf X.xe s := by
  have clo : ∀ y ∈ scope.names, y.2 = .free → ∃ c, X.env.cells.lookup y.1 = some c := by
    intro y hy e
    exact (B.ok.free y hy e).elim (fun k => I.ok.has _ (.inl k)) fun k => I.ok.has _ (.inr k)
  have first := B.it.run pins s σ H _ I h
  refine wpAny_comprehension_free (use := use) rfl B.fold (closure_ok clo) B.ok.kind
    (fun y hy e => (B.ok.uniq y hy).trans (congrArg some e)) (thn first fun v s1 q1 => thn q1 fun itv s2 q2 => ?_)
  obtain ⟨a, fp, tn, J, H2, rfl, I2, T, st2, f2, q⟩ := q2
  refine wpAny_newObj_type (newEnv_comp ?_) (by show 0 ≤ sizeLine; decide)
  generalize hD : s2.heap.objs.size = D
  have nD : H2 D = none := I2.hok.fresh (Nat.le_of_eq hD)
  obtain ⟨W, ⟨m0, w0⟩, turn⟩ := q D nD
  have grow : ∀ {b : Addr} {o : Obj}, s2.heap.get? b = some o → (s2.heap.push { cls := .type "list", data := .seq ([] : List Value).toArray }).get? b = some o :=
    fun e => Heap.get?_push_of_some _ e
  generalize hs3 : ({ s2 with heap := s2.heap.push { cls := .type "list", data := .seq ([] : List Value).toArray } } : Shared) = s3
  have e3 : s3.heap = s2.heap.push { cls := .type "list", data := .seq ([] : List Value).toArray } := by rw [← hs3]
  have I3 : Inv X pins σ (upd H2 D (.lst [])) s3 := by
    subst hs3
    subst hD
    exact I2.laid (t' := s2.toks) (fun b o e => grow e) (Nat.le_refl _) ⟨Nat.zero_le _, [], 0, .nil, Heap.get?_push_size _ rfl⟩
  have lt2 : ∀ b ∈ fp, b < s2.heap.objs.size := by
    intro b hb
    obtain ⟨o, e, _⟩ := T.obj _ _ st2 b hb
    exact Heap.lt_size e
  have f3 : ∀ b ∈ fp, FpOk X pins (upd H2 D (.lst [])) b ∧ b < s3.heap.objs.size := by
    intro b hb
    have l := lt2 b hb
    obtain ⟨z1, z2⟩ := f2 b hb
    refine ⟨⟨(upd_ne fun z => ?_).trans z1, z2⟩, ?_⟩
    · rw [z, ← hD] at l
      exact Nat.lt_irrefl _ l
    · rw [e3, Heap.size_push]
      exact Nat.lt_succ_of_lt l
  have st3 : tn 0 s3.heap := T.keep _ _ _ st2 fun b _ o e => by rw [e3]; exact grow e
  have I4 := block_start I3 B.ok B.nd f3
  generalize hcl : cellsFrom (s3.heap.objs.size + 1) scope.names (cloFrom X.env.cells scope.names []) = cl at I4
  have pg := B.tg_ s3 (upd H2 D (.lst [])) s3.heap.objs.size cl fp
  have pt := B.ts s3 (upd H2 D (.lst [])) s3.heap.objs.size cl fp
  have pl := B.tl s3 (upd H2 D (.lst [])) s3.heap.objs.size cl fp a D
  have st4 : tn 0 (pushCells (s3.heap.push { cls := .type "dict", data := .dict #[] }) scope.names) :=
    T.keep _ _ _ st3 fun b _ o e => pushCells_keeps _ _ _ _ (Heap.get?_push_of_some _ e)
  have f4 : ∀ b ∈ fp, FpOk (X.blk s3 (upd H2 D (.lst [])) scope (compEnvC scope cl s3.heap.objs.size X.env) fp) [] (upd H2 D (.lst [])) b := by
    intro b hb
    refine ⟨(f3 b hb).1.1, (I4.ok.exf b hb).1, I4.ok.exfs b hb, .inl hb, fun x c e => (I4.ok.exf b hb).2 x c e, fun p hp => ?_⟩
    have hp : p ∈ ([] : List (Addr × Obj)) ++ [] := hp
    simp at hp
  have loop := loopY (Y := X.blk s3 (upd H2 D (.lst [])) scope (compEnvC scope cl s3.heap.objs.size X.env) fp) (B.eq_ a D (compEnvC scope cl s3.heap.objs.size X.env)) B.calm rfl T pg pt pl B.sub turn I4 st4 f4 w0
  have back : ∀ (r : Result) (s' : Shared), (r = .ok .next ∧ ∃ H', Inv (X.blk s3 (upd H2 D (.lst [])) scope (compEnvC scope cl s3.heap.objs.size X.env) fp) [] (wipe σ (own.map (·.2))) H' s' ∧ Q (.ref D) H') →
      compPost (model X.prog X.w) X.A X.xe use Qf (.ref D) s3.heap.objs.size r s' := by
    rintro r s' ⟨rfl, H', I5, q5⟩
    have I6 : Inv X pins σ H' s' := I3.call' (ch := fp) I5.os I5.base I5.hok I5.bare fun b hb => by
      obtain ⟨⟨_, z1, z2, z3, z4, z5⟩, _⟩ := f3 b hb
      exact ⟨z3, z1, z4, z5⟩
    obtain ⟨m, hm, _⟩ := I5.loc
    exact hR D s3.heap.objs.size s' m H' I6 q5 hm (I3.fpOk (Nat.le_refl _) I5.free)
  have done := codeAny_mono (codeAny_compStart_list loop (T.self X.A 0 _ _ _ st4 loop)) back
  subst hcl
  exact done
theorem pe_lcN (B : BlkN X elt tg iter ifs rest scope pos own wi g tt tb vs tail) : PE X (.ListComp elt (⟨tg, iter, ifs, 0⟩ :: rest) scope pos) (tLcN wi g tt tb (own.map (·.2))) := by
  refine ⟨fun pins s σ H Q I h => ?_⟩
  rw [eval_ListComp]
  refine coreN B I h fun D C s' m H' I' q hn f => ⟨m, hn, fun h' sb => ?_⟩
  obtain ⟨f0, f1, f2, f3, f4, f5⟩ := f
  have I2 := I'.turned (t' := s'.toks) (fun b o hb e => (sb.2 b hb).trans e) f0 f1 f3 f4 f5
  exact ⟨.ref D, H', I2, rfl, q⟩
end
section
variable {X : Cx} {elt t0 i0 t1 i1 t2 i2 : Expr} {f0 f1 f2 : List Expr} {scope : Scope} {pos : Pos} {own : List (Str × Nat)} {w0 w1 w2 : TI} {g0 g1 g2 : TG} {c0 c1 c2 : TT} {te : TE} {v1 v2 : List Nat}
/-- [.. for .. for .. for ..]: v1 the slots of the second and third targets, v2 those of the third -/
theorem pe_lc3 (hc : X.calm = true) (hN : X.N.Nodup) (hi : PI X t0 i0 w0) (ok : BlkOk X.N X.env.scope scope own) (h1 : ∀ i ∈ v1, i ∈ own.map (·.2)) (h2 : ∀ i ∈ v2, i ∈ v1)
    (a0 : ∀ (s : Shared) (H : Hp) (C : Addr) (cl : List (Str × Addr)) (fp : List Addr), PG (X.blk s H scope (compEnvC scope cl C X.env) fp) t0 g0)
    (b0 : ∀ (s : Shared) (H : Hp) (C : Addr) (cl : List (Str × Addr)) (fp : List Addr), PTs (X.blk s H scope (compEnvC scope cl C X.env) fp) f0 c0)
    (j1 : ∀ (s : Shared) (H : Hp) (C : Addr) (cl : List (Str × Addr)) (fp : List Addr), PI (X.blk s H scope (compEnvC scope cl C X.env) fp) t1 i1 w1)
    (a1 : ∀ (s : Shared) (H : Hp) (C : Addr) (cl : List (Str × Addr)) (fp : List Addr), PG (X.blk s H scope (compEnvC scope cl C X.env) fp) t1 g1)
    (b1 : ∀ (s : Shared) (H : Hp) (C : Addr) (cl : List (Str × Addr)) (fp : List Addr), PTs (X.blk s H scope (compEnvC scope cl C X.env) fp) f1 c1)
    (j2 : ∀ (s : Shared) (H : Hp) (C : Addr) (cl : List (Str × Addr)) (fp : List Addr), PI (X.blk s H scope (compEnvC scope cl C X.env) fp) t2 i2 w2)
    (a2 : ∀ (s : Shared) (H : Hp) (C : Addr) (cl : List (Str × Addr)) (fp : List Addr), PG (X.blk s H scope (compEnvC scope cl C X.env) fp) t2 g2)
    (b2 : ∀ (s : Shared) (H : Hp) (C : Addr) (cl : List (Str × Addr)) (fp : List Addr), PTs (X.blk s H scope (compEnvC scope cl C X.env) fp) f2 c2)
    (he : ∀ (s : Shared) (H : Hp) (C : Addr) (cl : List (Str × Addr)) (fp : List Addr), PE (X.blk s H scope (compEnvC scope cl C X.env) fp) elt te)
    (z0 : ∀ x, foldedSetIterable i0 X.env x = pure x := by intro _; rfl) (z1 : ∀ env x, foldedSetIterable i1 env x = pure x := by intro _ _; rfl) (z2 : ∀ env x, foldedSetIterable i2 env x = pure x := by intro _ _; rfl) :
    PE X (.ListComp elt [⟨t0, i0, f0, 0⟩, ⟨t1, i1, f1, 0⟩, ⟨t2, i2, f2, 0⟩] scope pos) (tLcN w0 g0 c0 (fun D => tbOut w1 g1 c1 (tbOut w2 g2 c2 (tbIn te D) v2) v1) (own.map (·.2))) :=
  pe_lcN (tail := fun a D env => tailOut (.ListComp elt [⟨t0, i0, f0, 0⟩, ⟨t1, i1, f1, 0⟩, ⟨t2, i2, f2, 0⟩] scope pos) i1 0 (.ref a) (.ref D) env) (vs := v1)
    { calm := hc, nd := hN, it := hi, ok := ok, sub := h1, eq_ := fun _ _ _ => turn0, tg_ := a0, ts := b0, fold := z0
      tl := fun s H C cl fp a D => tail_out (Y := X.blk s H scope (compEnvC scope cl C X.env) fp) hc rfl rfl rfl (fun _ => turn1) (j1 s H C cl fp) (a1 s H C cl fp) (b1 s H C cl fp) (z1 _)
        (fun _ => tail_out (Y := X.blk s H scope (compEnvC scope cl C X.env) fp) hc rfl rfl rfl (fun _ => turn2) (j2 s H C cl fp) (a2 s H C cl fp) (b2 s H C cl fp) (z2 _)
          (fun _ => tail_in rfl (he s H C cl fp)) fun i hi => by cases hi) h2 }
theorem turn20 {it acc : Value} {env : Env} : turnOf (.ListComp elt [⟨t0, i0, f0, 0⟩, ⟨t1, i1, f1, 0⟩] scope pos) 0 t0 i0.pos f0 (tailOut (.ListComp elt [⟨t0, i0, f0, 0⟩, ⟨t1, i1, f1, 0⟩] scope pos) i1 0 it acc env) it acc env := by rfl
theorem turn21 {it acc : Value} {env : Env} : turnOf (.ListComp elt [⟨t0, i0, f0, 0⟩, ⟨t1, i1, f1, 0⟩] scope pos) 1 t1 i1.pos f1 (tailIn (.ListComp elt [⟨t0, i0, f0, 0⟩, ⟨t1, i1, f1, 0⟩] scope pos) elt 1 it acc env) it acc env := by rfl
theorem pe_lcTwo (hc : X.calm = true) (hN : X.N.Nodup) (hi : PI X t0 i0 w0) (ok : BlkOk X.N X.env.scope scope own) (h1 : ∀ i ∈ v1, i ∈ own.map (·.2))
    (a0 : ∀ (s : Shared) (H : Hp) (C : Addr) (cl : List (Str × Addr)) (fp : List Addr), PG (X.blk s H scope (compEnvC scope cl C X.env) fp) t0 g0)
    (b0 : ∀ (s : Shared) (H : Hp) (C : Addr) (cl : List (Str × Addr)) (fp : List Addr), PTs (X.blk s H scope (compEnvC scope cl C X.env) fp) f0 c0)
    (j1 : ∀ (s : Shared) (H : Hp) (C : Addr) (cl : List (Str × Addr)) (fp : List Addr), PI (X.blk s H scope (compEnvC scope cl C X.env) fp) t1 i1 w1)
    (a1 : ∀ (s : Shared) (H : Hp) (C : Addr) (cl : List (Str × Addr)) (fp : List Addr), PG (X.blk s H scope (compEnvC scope cl C X.env) fp) t1 g1)
    (b1 : ∀ (s : Shared) (H : Hp) (C : Addr) (cl : List (Str × Addr)) (fp : List Addr), PTs (X.blk s H scope (compEnvC scope cl C X.env) fp) f1 c1)
    (he : ∀ (s : Shared) (H : Hp) (C : Addr) (cl : List (Str × Addr)) (fp : List Addr), PE (X.blk s H scope (compEnvC scope cl C X.env) fp) elt te)
    (z0 : ∀ x, foldedSetIterable i0 X.env x = pure x := by intro _; rfl) (z1 : ∀ env x, foldedSetIterable i1 env x = pure x := by intro _ _; rfl) :
    PE X (.ListComp elt [⟨t0, i0, f0, 0⟩, ⟨t1, i1, f1, 0⟩] scope pos) (tLcN w0 g0 c0 (fun D => tbOut w1 g1 c1 (tbIn te D) v1) (own.map (·.2))) :=
  pe_lcN (tail := fun a D env => tailOut (.ListComp elt [⟨t0, i0, f0, 0⟩, ⟨t1, i1, f1, 0⟩] scope pos) i1 0 (.ref a) (.ref D) env) (vs := v1)
    { calm := hc, nd := hN, it := hi, ok := ok, sub := h1, eq_ := fun _ _ _ => turn20, tg_ := a0, ts := b0, fold := z0
      tl := fun s H C cl fp a D => tail_out (Y := X.blk s H scope (compEnvC scope cl C X.env) fp) hc rfl rfl rfl (fun _ => turn21) (j1 s H C cl fp) (a1 s H C cl fp) (b1 s H C cl fp) (z1 _)
        (fun _ => tail_in rfl (he s H C cl fp)) fun i hi => by cases hi }
end
/-- the turns of a clause over a walk -/
theorem lcN_it {J : It} {n : Nat} {G : Hp → Prop} {Y : Nat → Hp → V → Hp → Prop} (w : Walk J n G Y) {g : TG} {tt : TT} {bd : TBd} {vs : List Nat} {σ : L2.St} {H1 : Hp} {Z : Hp → Prop} (Pv : Nat → Hp → Prop) (h0 : Pv 0 H1) (hG : ∀ i H, i ≤ n → Pv i H → G H)
    (hs : ∀ i x H H', i < n → Pv i H → Y i H x H' → g x (wipe σ vs) H' fun σ2 H2 => wipe σ2 vs = wipe σ vs ∧ tt σ2 H2 fun b H3 => if b = true then bd σ2 H3 (Pv (i + 1)) else Pv (i + 1) H3) (hd : ∀ H, Pv n H → Z H) :
    ∃ W : Nat → Nat → Hp → Prop, (∃ m, W 0 m H1) ∧ ∀ i m H, W i m H →
      (J.stop i H ∧ Z H) ∨ (J.go i H ∧ ∃ Nx : Hp → Prop, (∀ H', Nx H' → ∃ m', m' < m ∧ W (i + 1) m' H') ∧
        ∀ x H', J.yld i H x H' → g x (wipe σ vs) H' fun σ2 H2 => wipe σ2 vs = wipe σ vs ∧ tt σ2 H2 fun b H3 => if b = true then bd σ2 H3 Nx else Nx H3) := by
  refine ⟨fun i m H => i + m = n ∧ Pv i H, ⟨n, Nat.zero_add n, h0⟩, fun i m H => ?_⟩
  rintro ⟨hm, p⟩
  have q := hG i H (by omega) p
  by_cases l : i < n
  · exact .inr ⟨w.goes i H l q, Pv (i + 1), fun H' p' => ⟨m - 1, by omega, by omega, p'⟩, fun x H' y => hs i x H H' l p (w.yields i H x H' l q y)⟩
  · obtain rfl : i = n := by omega
    exact .inl ⟨w.stops H q, hd H p⟩
end PA.N

/-! marked rules: a pair of cases in a list of which the called case alone moves -/
namespace MK
abbrev Rn := LF.Row Bool
/-- the flags of a pair that is led on by calls: whether the second one is ahead -/
def nxS (r : Rn) (b : Bool) : Nat := if b = true then r.2.2.1 else r.1
def chg (r : Rn) (b : Bool) : Bool := if b = true then r.2.2.2 else r.2.1
def prs (T : List Rn) : Nat × Bool → List Bool → Nat × Bool
  | s, [] => s
  | s, c :: w => match T[s.1]? with
    | none => s
    | some r => prs T (nxS r (c != s.2), s.2 != chg r (c != s.2)) w
def prun (T : List Rn) : Nat × Bool → List Bool → List Bool
  | _, [] => []
  | s, c :: w => match T[s.1]? with
    | none => []
    | some r => (s.2 != chg r (c != s.2)) :: prun T (nxS r (c != s.2), s.2 != chg r (c != s.2)) w
theorem prs_snoc {T : List Rn} (ok : LF.TOk T) : ∀ (w : List Bool) (s : Nat × Bool) (c : Bool), s.1 < T.length → (prs T s w).1 < T.length ∧ ∃ r, T[(prs T s w).1]? = some r ∧ prs T s (w ++ [c]) = (nxS r (c != (prs T s w).2), (prs T s w).2 != chg r (c != (prs T s w).2)) ∧ prun T s (w ++ [c]) = prun T s w ++ [(prs T s w).2 != chg r (c != (prs T s w).2)]
  | [], s, c, h => by
    have e : T[s.1]? = some T[s.1] := List.getElem?_eq_getElem h
    refine ⟨h, T[s.1], e, ?_, ?_⟩
    · show prs T s [c] = _
      simp only [prs, e]
    · show prun T s [c] = _
      simp only [prun, e, List.nil_append]
      rfl
  | d :: w, s, c, h => by
    have e : T[s.1]? = some T[s.1] := List.getElem?_eq_getElem h
    have hn : (nxS T[s.1] (d != s.2)) < T.length := by
      have := ok T[s.1] (List.getElem_mem h)
      unfold nxS
      split
      · exact this.2
      · exact this.1
    obtain ⟨h1, r, h2, h3, h4⟩ := prs_snoc ok w (nxS T[s.1] (d != s.2), s.2 != chg T[s.1] (d != s.2)) c hn
    have e1 : prs T s (d :: w) = prs T (nxS T[s.1] (d != s.2), s.2 != chg T[s.1] (d != s.2)) w := by
      simp only [prs, e]
    have e2 : prun T s (d :: w) = (s.2 != chg T[s.1] (d != s.2)) :: prun T (nxS T[s.1] (d != s.2), s.2 != chg T[s.1] (d != s.2)) w := by
      simp only [prun, e]
    have e3 : prs T s ((d :: w) ++ [c]) = prs T (nxS T[s.1] (d != s.2), s.2 != chg T[s.1] (d != s.2)) (w ++ [c]) := by
      show prs T s (d :: (w ++ [c])) = _
      simp only [prs, e]
    have e4 : prun T s ((d :: w) ++ [c]) = (s.2 != chg T[s.1] (d != s.2)) :: prun T (nxS T[s.1] (d != s.2), s.2 != chg T[s.1] (d != s.2)) (w ++ [c]) := by
      show prun T s (d :: (w ++ [c])) = _
      simp only [prun, e]
    rw [e1, e2, e3, e4]
    exact ⟨h1, r, h2, h3, by rw [h4]; rfl⟩
theorem prun_len {T : List Rn} (ok : LF.TOk T) : ∀ (w : List Bool) (s : Nat × Bool), s.1 < T.length → (prun T s w).length = w.length
  | [], _, _ => rfl
  | d :: w, s, h => by
    have e : T[s.1]? = some T[s.1] := List.getElem?_eq_getElem h
    have hn : (nxS T[s.1] (d != s.2)) < T.length := by
      have := ok T[s.1] (List.getElem_mem h)
      unfold nxS
      split
      · exact this.2
      · exact this.1
    simp only [prun, e, List.length_cons]
    rw [prun_len ok w _ hn]
/-- alike tables have the same flags -/
theorem prun_alk {A B : List Rn} (oA : LF.TOk A) (oB : LF.TOk B) : ∀ (w : List Bool) {a b : Nat} {t : Bool}, LF.RR A B a b → prun A (a, t) w = prun B (b, t) w
  | [], _, _, _, _ => rfl
  | c :: w, a, b, t, h => by
    obtain ⟨ra, ea⟩ : ∃ r, A[a]? = some r := ⟨_, List.getElem?_eq_getElem h.1⟩
    obtain ⟨rb, eb⟩ : ∃ r, B[b]? = some r := ⟨_, List.getElem?_eq_getElem h.2.1⟩
    obtain ⟨k, r1, r2⟩ := LF.rr_step oA oB h ea eb
    have k1 : ra.2.1 = rb.2.1 := congrArg (fun z : Bool × Bool => z.1) k
    have k2 : ra.2.2.2 = rb.2.2.2 := congrArg (fun z : Bool × Bool => z.2) k
    have kc : chg ra (c != t) = chg rb (c != t) := by
      unfold chg
      rw [k1, k2]
    simp only [prun, ea, eb]
    rw [kc]
    congr 1
    refine prun_alk oA oB w ?_
    unfold nxS
    cases (c != t)
    · exact r1
    · exact r2
/-! ### the marked table -/
abbrev Wt := List (Nat × Nat)
structure WOk (W : Wt) : Prop where
  one : 1 ≤ W.length
  four : W.length ≤ 4
  ok : ∀ r ∈ W, r.1 < W.length ∧ r.2 < 3
def wat (W : Wt) (p : Nat) : Nat × Nat := W.getD p (0, 0)
theorem wat_at {W : Wt} {p : Nat} (h : p < W.length) : W[p]? = some (wat W p) := by
  unfold wat
  rw [List.getD_eq_getElem?_getD, List.getElem?_eq_getElem h]
  rfl
theorem wat_ok {W : Wt} (o : WOk W) {p : Nat} (h : p < W.length) : (wat W p).1 < W.length ∧ (wat W p).2 < 3 := o.ok _ (List.mem_of_getElem? (wat_at h))
/-- 0: front, 1: back, 2: keep -/
def mrow (W : Wt) (p q : Nat) : Rn :=
  (if (wat W p).2 = 1 then q * W.length + (wat W p).1 else (wat W p).1 * W.length + q, decide ((wat W p).2 = 1),
   if (wat W q).2 = 0 then (wat W q).1 * W.length + p else p * W.length + (wat W q).1, decide ((wat W q).2 = 0))
def mrows (W : Wt) : List Rn := (List.range (W.length * W.length)).map fun i => mrow W (i / W.length) (i % W.length)
theorem mrows_len (W : Wt) : (mrows W).length = W.length * W.length := by unfold mrows; simp
theorem mul_lt {n a b : Nat} (ha : a < n) (hb : b < n) : a * n + b < n * n := by
  have : (a + 1) * n ≤ n * n := Nat.mul_le_mul_right n ha
  rw [Nat.succ_mul] at this
  omega
theorem mrows_at {W : Wt} {p q : Nat} (hp : p < W.length) (hq : q < W.length) : (mrows W)[p * W.length + q]? = some (mrow W p q) := by
  unfold mrows
  rw [List.getElem?_map, List.getElem?_range (mul_lt hp hq)]
  show some (mrow W ((p * W.length + q) / W.length) ((p * W.length + q) % W.length)) = _
  rw [Nat.mul_comm p, Nat.mul_add_div (by omega), Nat.div_eq_of_lt hq, Nat.add_zero, Nat.mul_add_mod, Nat.mod_eq_of_lt hq]
theorem mrow_lt {W : Wt} (o : WOk W) {p q : Nat} (hp : p < W.length) (hq : q < W.length) : (mrow W p q).1 < W.length * W.length ∧ (mrow W p q).2.2.1 < W.length * W.length := by
  have h1 := (wat_ok o hp).1
  have h2 := (wat_ok o hq).1
  unfold mrow
  dsimp only
  constructor
  · split
    · exact mul_lt hq h1
    · exact mul_lt h1 hq
  · split
    · exact mul_lt h2 hp
    · exact mul_lt hp h2
theorem mrows_ok {W : Wt} (o : WOk W) : LF.TOk (mrows W) := by
  intro r hr
  unfold mrows at hr
  obtain ⟨i, hi, rfl⟩ := List.mem_map.mp hr
  have hi := List.mem_range.mp hi
  rw [mrows_len]
  have h0 : 0 < W.length := o.one
  exact mrow_lt o (Nat.div_lt_of_lt_mul hi) (Nat.mod_lt _ h0)
/-! ### the list -/
/-- whether x stands ahead of y -/
def ahd (l : List Nat) (x y : Nat) : Bool := decide (LF.ix l x < LF.ix l y)
theorem ix_filter {p : Nat → Bool} {x y : Nat} (hx : p x = true) (hy : p y = true) : ∀ {l : List Nat}, x ∈ l → y ∈ l → (LF.ix (l.filter p) x < LF.ix (l.filter p) y ↔ LF.ix l x < LF.ix l y)
  | a :: t, mx, my => by
    by_cases hxy : x = y
    · subst hxy
      simp
    by_cases ax : a = x
    · subst ax
      have e1 : LF.ix (a :: t) a = 0 := by rw [LF.ix, if_pos rfl]
      have e2 : (a :: t).filter p = a :: t.filter p := by rw [List.filter_cons, if_pos hx]
      have e3 : LF.ix (a :: t) y = LF.ix t y + 1 := by rw [LF.ix, if_neg hxy]
      rw [e2, e1, e3]
      have e4 : LF.ix (a :: t.filter p) a = 0 := by rw [LF.ix, if_pos rfl]
      have e5 : LF.ix (a :: t.filter p) y = LF.ix (t.filter p) y + 1 := by rw [LF.ix, if_neg hxy]
      rw [e4, e5]
      exact ⟨fun _ => Nat.succ_pos _, fun _ => Nat.succ_pos _⟩
    by_cases ay : a = y
    · subst ay
      have e1 : LF.ix (a :: t) a = 0 := by rw [LF.ix, if_pos rfl]
      have e2 : (a :: t).filter p = a :: t.filter p := by rw [List.filter_cons, if_pos hy]
      have e4 : LF.ix (a :: t.filter p) a = 0 := by rw [LF.ix, if_pos rfl]
      rw [e2, e1, e4]
      exact ⟨fun h => absurd h (Nat.not_lt_zero _), fun h => absurd h (Nat.not_lt_zero _)⟩
    have mx' : x ∈ t := (List.mem_cons.mp mx).resolve_left fun z => ax z.symm
    have my' : y ∈ t := (List.mem_cons.mp my).resolve_left fun z => ay z.symm
    have ih := ix_filter (p := p) hx hy mx' my'
    have e1 : LF.ix (a :: t) x = LF.ix t x + 1 := by rw [LF.ix, if_neg ax]
    have e2 : LF.ix (a :: t) y = LF.ix t y + 1 := by rw [LF.ix, if_neg ay]
    rw [e1, e2]
    by_cases pa : p a = true
    · have e3 : (a :: t).filter p = a :: t.filter p := by rw [List.filter_cons, if_pos pa]
      have e4 : LF.ix (a :: t.filter p) x = LF.ix (t.filter p) x + 1 := by rw [LF.ix, if_neg ax]
      have e5 : LF.ix (a :: t.filter p) y = LF.ix (t.filter p) y + 1 := by rw [LF.ix, if_neg ay]
      rw [e3, e4, e5]
      omega
    · have e3 : (a :: t).filter p = t.filter p := by rw [List.filter_cons, if_neg pa]
      rw [e3]
      omega
/-- the list behind a call that moves its case -/
def mvd (w c : Nat) (l : List Nat) : List Nat := if w = 2 then l else if w = 0 then c :: l.filter (fun x => decide (x ≠ c)) else l.filter (fun x => decide (x ≠ c)) ++ [c]
theorem mvd_mem {w c : Nat} {l : List Nat} (hc : c ∈ l) {x : Nat} : x ∈ mvd w c l ↔ x ∈ l := by
  unfold mvd
  by_cases hx : x = c
  · subst hx
    split
    · exact Iff.rfl
    · split <;> simp [hc]
  · split
    · exact Iff.rfl
    · split <;> simp [hx]
theorem mvd_len {w c : Nat} {l : List Nat} (hc : c ∈ l) (nd : l.Nodup) : (mvd w c l).Nodup ∧ (mvd w c l).length = l.length := by
  have hf : (l.filter (fun x => decide (x ≠ c))).Nodup := nd.filter _
  have hn : c ∉ l.filter (fun x => decide (x ≠ c)) := by simp
  have key : (c :: l.filter (fun x => decide (x ≠ c))).Perm l := by
    refine (List.perm_ext_iff_of_nodup (List.nodup_cons.mpr ⟨hn, hf⟩) nd).mpr fun x => ?_
    by_cases hx : x = c
    · subst hx
      simp [hc]
    · simp [hx]
  unfold mvd
  split
  · exact ⟨nd, rfl⟩
  · split
    · exact ⟨List.nodup_cons.mpr ⟨hn, hf⟩, key.length_eq⟩
    · refine ⟨LF.nodup_snoc hf hn, ?_⟩
      have := key.length_eq
      rw [List.length_append]
      simpa using this
/-- of two others nothing changes -/
theorem ahd_other {w c x y : Nat} {l : List Nat} (mx : x ∈ l) (my : y ∈ l) (cx : x ≠ c) (cy : y ≠ c) : ahd (mvd w c l) x y = ahd l x y := by
  have px : (fun z => decide (z ≠ c)) x = true := decide_eq_true cx
  have py : (fun z => decide (z ≠ c)) y = true := decide_eq_true cy
  have key := ix_filter (p := fun z => decide (z ≠ c)) px py mx my
  unfold ahd mvd
  rw [Bool.eq_iff_iff, decide_eq_true_iff, decide_eq_true_iff]
  split
  · exact Iff.rfl
  · split
    · have e4 : ∀ z, z ≠ c → LF.ix (c :: l.filter (fun x => decide (x ≠ c))) z = LF.ix (l.filter (fun x => decide (x ≠ c))) z + 1 := fun z hz => by rw [LF.ix, if_neg fun h => hz h.symm]
      rw [e4 x cx, e4 y cy, ← key]
      omega
    · have m1 : x ∈ l.filter (fun x => decide (x ≠ c)) := List.mem_filter.mpr ⟨mx, px⟩
      have m2 : y ∈ l.filter (fun x => decide (x ≠ c)) := List.mem_filter.mpr ⟨my, py⟩
      rw [LF.ix_app m1, LF.ix_app m2, ← key]
/-- the called case and another one -/
theorem ahd_front {c y : Nat} {l : List Nat} (cy : y ≠ c) : ahd (mvd 0 c l) c y = true ∧ ahd (mvd 0 c l) y c = false := by
  have e : mvd 0 c l = c :: l.filter (fun x => decide (x ≠ c)) := by unfold mvd; rw [if_neg (by decide), if_pos rfl]
  have e1 : LF.ix (c :: l.filter (fun x => decide (x ≠ c))) c = 0 := by rw [LF.ix, if_pos rfl]
  have e2 : LF.ix (c :: l.filter (fun x => decide (x ≠ c))) y = LF.ix (l.filter (fun x => decide (x ≠ c))) y + 1 := by rw [LF.ix, if_neg fun h => cy h.symm]
  unfold ahd
  rw [e, e1, e2]
  exact ⟨decide_eq_true (Nat.succ_pos _), decide_eq_false (Nat.not_lt_zero _)⟩
theorem ahd_back {c y : Nat} {l : List Nat} (my : y ∈ l) (cy : y ≠ c) : ahd (mvd 1 c l) c y = false ∧ ahd (mvd 1 c l) y c = true := by
  have e : mvd 1 c l = l.filter (fun x => decide (x ≠ c)) ++ [c] := by unfold mvd; rw [if_neg (by decide), if_neg (by decide)]
  have m2 : y ∈ l.filter (fun x => decide (x ≠ c)) := List.mem_filter.mpr ⟨my, decide_eq_true cy⟩
  have hn : c ∉ l.filter (fun x => decide (x ≠ c)) := by simp
  have e1 : LF.ix (l.filter (fun x => decide (x ≠ c)) ++ [c]) y = LF.ix (l.filter (fun x => decide (x ≠ c))) y := LF.ix_app m2
  have e2 : LF.ix (l.filter (fun x => decide (x ≠ c)) ++ [c]) c = (l.filter (fun x => decide (x ≠ c))).length := LF.ix_new hn []
  have e3 := LF.ix_lt m2
  unfold ahd
  rw [e, e1, e2]
  exact ⟨decide_eq_false (by omega), decide_eq_true e3⟩
theorem ahd_anti {l : List Nat} {x y : Nat} (mx : x ∈ l) (my : y ∈ l) (h : x ≠ y) : ahd l y x = !ahd l x y := by
  have hne : LF.ix l x ≠ LF.ix l y := fun e => h (LF.ix_inj mx my e)
  unfold ahd
  by_cases hl : LF.ix l x < LF.ix l y
  · rw [decide_eq_true hl, decide_eq_false (by omega)]
    rfl
  · rw [decide_eq_false hl, decide_eq_true (by omega)]
    rfl
/-! ### the run -/
def stp (W : Wt) (s : List Nat × List Nat) (c : Nat) : List Nat × List Nat := (mvd (wat W (s.2.getD c 0)).2 c s.1, s.2.set c (wat W (s.2.getD c 0)).1)
def rns (W : Wt) (marks calls : List Nat) : Nat → List Nat × List Nat
  | 0 => (List.range marks.length, marks)
  | i + 1 => match calls[i]? with
    | none => rns W marks calls i
    | some c => stp W (rns W marks calls i) c
structure ROk (W : Wt) (m : Nat) (s : List Nat × List Nat) : Prop where
  nd : s.1.Nodup
  len : s.1.length = m
  mem : ∀ x, x ∈ s.1 ↔ x < m
  sl : s.2.length = m
  sm : ∀ x ∈ s.2, x < W.length
variable {W : Wt} {marks calls : List Nat}
theorem stp_ok (o : WOk W) {m : Nat} {s : List Nat × List Nat} (h : ROk W m s) {c : Nat} (hc : c < m) : ROk W m (stp W s c) := by
  have mc := (h.mem c).mpr hc
  have hs : s.2.getD c 0 < W.length := by
    have hc' : c < s.2.length := by rw [h.sl]; exact hc
    rw [List.getD_eq_getElem?_getD, List.getElem?_eq_getElem hc']
    exact h.sm _ (List.getElem_mem hc')
  obtain ⟨n1, n2⟩ := mvd_len (w := (wat W (s.2.getD c 0)).2) mc h.nd
  refine ⟨n1, n2.trans h.len, fun x => (mvd_mem mc).trans (h.mem x), by show (s.2.set _ _).length = m; rw [List.length_set]; exact h.sl, fun x hx => ?_⟩
  rcases List.mem_or_eq_of_mem_set hx with hx | hx
  · exact h.sm x hx
  · rw [hx]
    exact (wat_ok o hs).1
theorem rns_ok (o : WOk W) (hm : ∀ x ∈ marks, x < W.length) (hc : ∀ c ∈ calls, c < marks.length) : ∀ i, ROk W marks.length (rns W marks calls i)
  | 0 => ⟨List.nodup_range, List.length_range, fun x => List.mem_range, rfl, hm⟩
  | i + 1 => by
    have ih := rns_ok o hm hc i
    show ROk W marks.length (match calls[i]? with | none => rns W marks calls i | some c => stp W (rns W marks calls i) c)
    cases h : calls[i]? with
    | none => exact ih
    | some c => exact stp_ok o ih (hc c (List.mem_of_getElem? h))
/-- the calls of the two -/
def mine (calls : List Nat) (lo hi i : Nat) : List Nat := (List.range i).filter fun k => decide (calls[k]? = some lo) || decide (calls[k]? = some hi)
def own (calls : List Nat) (lo hi i : Nat) : List Bool := (mine calls lo hi i).map fun k => decide (calls[k]? = some hi)
theorem mine_succ (calls : List Nat) (lo hi i : Nat) : mine calls lo hi (i + 1) = mine calls lo hi i ++ if (decide (calls[i]? = some lo) || decide (calls[i]? = some hi)) = true then [i] else [] := by
  unfold mine
  rw [List.range_succ, List.filter_append, List.filter_cons, List.filter_nil]
/-- the state of the pair: of the one ahead, then of the other -/
def pst (W : Wt) (lo hi : Nat) (s : List Nat × List Nat) : Nat × Bool :=
  (if ahd s.1 hi lo = true then s.2.getD hi 0 * W.length + s.2.getD lo 0 else s.2.getD lo 0 * W.length + s.2.getD hi 0, ahd s.1 hi lo)
theorem getD_lt {m : Nat} {s : List Nat × List Nat} (h : ROk W m s) {c : Nat} (hc : c < m) : s.2.getD c 0 < W.length := by
  have hc' : c < s.2.length := by rw [h.sl]; exact hc
  rw [List.getD_eq_getElem?_getD, List.getElem?_eq_getElem hc']
  exact h.sm _ (List.getElem_mem hc')
theorem getD_set {s : List Nat} {c x v : Nat} (hc : c < s.length) : (s.set c v).getD x 0 = if x = c then v else s.getD x 0 := by
  rw [List.getD_eq_getElem?_getD, List.getD_eq_getElem?_getD, List.getElem?_set]
  by_cases h : c = x
  · subst h
    rw [if_pos rfl, if_pos hc, if_pos rfl]
    rfl
  · rw [if_neg h, if_neg fun z => h z.symm]
/-- one step of the pair, as the table has it -/
theorem pst_step (o : WOk W) {m lo hi : Nat} {s : List Nat × List Nat} (h : ROk W m s) (hl : lo < m) (hh : hi < m) (ne : lo ≠ hi) {c : Nat} (hc : c = lo ∨ c = hi) :
    ∃ r, (mrows W)[(pst W lo hi s).1]? = some r ∧ pst W lo hi (stp W s c) = (nxS r (decide (c = hi) != (pst W lo hi s).2), (pst W lo hi s).2 != chg r (decide (c = hi) != (pst W lo hi s).2)) := by
  have ml := (h.mem lo).mpr hl
  have mh := (h.mem hi).mpr hh
  have wl := getD_lt h hl
  have wh := getD_lt h hh
  have cl : lo < s.2.length := by rw [h.sl]; exact hl
  have ch : hi < s.2.length := by rw [h.sl]; exact hh
  have anti := ahd_anti ml mh ne
  obtain ⟨a, ha⟩ : ∃ a, s.2.getD lo 0 = a := ⟨_, rfl⟩
  obtain ⟨b, hb⟩ : ∃ b, s.2.getD hi 0 = b := ⟨_, rfl⟩
  rw [ha] at wl
  rw [hb] at wh
  have wa3 := (wat_ok o wl).2
  have wb3 := (wat_ok o wh).2
  have new : ∀ τ, ahd (stp W s c).1 hi lo = τ → pst W lo hi (stp W s c) = (if τ = true then (stp W s c).2.getD hi 0 * W.length + (stp W s c).2.getD lo 0 else (stp W s c).2.getD lo 0 * W.length + (stp W s c).2.getD hi 0, τ) := fun τ e => by
    unfold pst
    rw [e]
  cases ht : ahd s.1 hi lo with
  | false =>
    -- lo is ahead
    have hlo : ahd s.1 lo hi = true := by rw [ht] at anti; simpa using anti.symm
    have ep : pst W lo hi s = (a * W.length + b, false) := by unfold pst; rw [ht, ha, hb]; rfl
    rw [ep]
    refine ⟨mrow W a b, mrows_at wl wh, ?_⟩
    rcases hc with rfl | rfl
    · -- the call of the one ahead
      have es : stp W s c = (mvd (wat W a).2 c s.1, s.2.set c (wat W a).1) := by unfold stp; rw [ha]
      have g1 : (stp W s c).2.getD c 0 = (wat W a).1 := by rw [es]; show (s.2.set c _).getD c 0 = _; rw [getD_set cl, if_pos rfl]
      have g2 : (stp W s c).2.getD hi 0 = b := by rw [es]; show (s.2.set c _).getD hi 0 = _; rw [getD_set cl, if_neg (Ne.symm ne), hb]
      have dn : decide (c = hi) = false := decide_eq_false ne
      rw [dn]
      by_cases w1 : (wat W a).2 = 1
      · have e1 : ahd (stp W s c).1 hi c = true := by rw [es, w1]; exact (ahd_back mh (Ne.symm ne)).2
        rw [new _ e1, g1, g2]
        simp [nxS, chg, mrow, w1]
      · have e1 : ahd (stp W s c).1 hi c = false := by
          rw [es]
          rcases (by omega : (wat W a).2 = 0 ∨ (wat W a).2 = 2) with w0 | w2
          · rw [w0]; exact (ahd_front (Ne.symm ne)).2
          · rw [w2]; exact ht
        rw [new _ e1, g1, g2]
        simp [nxS, chg, mrow, w1]
    · -- the call of the one behind
      have es : stp W s c = (mvd (wat W b).2 c s.1, s.2.set c (wat W b).1) := by unfold stp; rw [hb]
      have g1 : (stp W s c).2.getD lo 0 = a := by rw [es]; show (s.2.set c _).getD lo 0 = _; rw [getD_set ch, if_neg ne, ha]
      have g2 : (stp W s c).2.getD c 0 = (wat W b).1 := by rw [es]; show (s.2.set c _).getD c 0 = _; rw [getD_set ch, if_pos rfl]
      have dn : decide (c = c) = true := decide_eq_true rfl
      rw [dn]
      by_cases w1 : (wat W b).2 = 0
      · have e1 : ahd (stp W s c).1 c lo = true := by rw [es, w1]; exact (ahd_front ne).1
        rw [new _ e1, g1, g2]
        simp [nxS, chg, mrow, w1]
      · have e1 : ahd (stp W s c).1 c lo = false := by
          rw [es]
          rcases (by omega : (wat W b).2 = 1 ∨ (wat W b).2 = 2) with w0 | w2
          · rw [w0]; exact (ahd_back ml ne).1
          · rw [w2]; exact ht
        rw [new _ e1, g1, g2]
        simp [nxS, chg, mrow, w1]
  | true =>
    have ep : pst W lo hi s = (b * W.length + a, true) := by unfold pst; rw [ht, ha, hb]; rfl
    rw [ep]
    refine ⟨mrow W b a, mrows_at wh wl, ?_⟩
    rcases hc with rfl | rfl
    · -- lo is behind
      have es : stp W s c = (mvd (wat W a).2 c s.1, s.2.set c (wat W a).1) := by unfold stp; rw [ha]
      have g1 : (stp W s c).2.getD c 0 = (wat W a).1 := by rw [es]; show (s.2.set c _).getD c 0 = _; rw [getD_set cl, if_pos rfl]
      have g2 : (stp W s c).2.getD hi 0 = b := by rw [es]; show (s.2.set c _).getD hi 0 = _; rw [getD_set cl, if_neg (Ne.symm ne), hb]
      have dn : decide (c = hi) = false := decide_eq_false ne
      rw [dn]
      by_cases w1 : (wat W a).2 = 0
      · have e1 : ahd (stp W s c).1 hi c = false := by rw [es, w1]; exact (ahd_front (Ne.symm ne)).2
        rw [new _ e1, g1, g2]
        simp [nxS, chg, mrow, w1]
      · have e1 : ahd (stp W s c).1 hi c = true := by
          rw [es]
          rcases (by omega : (wat W a).2 = 1 ∨ (wat W a).2 = 2) with w0 | w2
          · rw [w0]; exact (ahd_back mh (Ne.symm ne)).2
          · rw [w2]; exact ht
        rw [new _ e1, g1, g2]
        simp [nxS, chg, mrow, w1]
    · have es : stp W s c = (mvd (wat W b).2 c s.1, s.2.set c (wat W b).1) := by unfold stp; rw [hb]
      have g1 : (stp W s c).2.getD lo 0 = a := by rw [es]; show (s.2.set c _).getD lo 0 = _; rw [getD_set ch, if_neg ne, ha]
      have g2 : (stp W s c).2.getD c 0 = (wat W b).1 := by rw [es]; show (s.2.set c _).getD c 0 = _; rw [getD_set ch, if_pos rfl]
      have dn : decide (c = c) = true := decide_eq_true rfl
      rw [dn]
      by_cases w1 : (wat W b).2 = 1
      · have e1 : ahd (stp W s c).1 c lo = false := by rw [es, w1]; exact (ahd_back ml ne).1
        rw [new _ e1, g1, g2]
        simp [nxS, chg, mrow, w1]
      · have e1 : ahd (stp W s c).1 c lo = true := by
          rw [es]
          rcases (by omega : (wat W b).2 = 0 ∨ (wat W b).2 = 2) with w0 | w2
          · rw [w0]; exact (ahd_front ne).1
          · rw [w2]; exact ht
        rw [new _ e1, g1, g2]
        simp [nxS, chg, mrow, w1]
/-- a call of another case changes nothing of the pair -/
theorem pst_other {m lo hi : Nat} {s : List Nat × List Nat} (h : ROk W m s) (hl : lo < m) (hh : hi < m) {c : Nat} (hc : c < m) (cl : c ≠ lo) (ch : c ≠ hi) : pst W lo hi (stp W s c) = pst W lo hi s := by
  have ml := (h.mem lo).mpr hl
  have mh := (h.mem hi).mpr hh
  have hcs : c < s.2.length := by rw [h.sl]; exact hc
  have e1 : ahd (stp W s c).1 hi lo = ahd s.1 hi lo := ahd_other mh ml (Ne.symm ch) (Ne.symm cl)
  have g1 : (stp W s c).2.getD lo 0 = s.2.getD lo 0 := by show (s.2.set c _).getD lo 0 = _; rw [getD_set hcs, if_neg (Ne.symm cl)]
  have g2 : (stp W s c).2.getD hi 0 = s.2.getD hi 0 := by show (s.2.set c _).getD hi 0 = _; rw [getD_set hcs, if_neg (Ne.symm ch)]
  unfold pst
  rw [e1, g1, g2]
theorem pst_lt (o : WOk W) {m lo hi : Nat} {s : List Nat × List Nat} (h : ROk W m s) (hl : lo < m) (hh : hi < m) : (pst W lo hi s).1 < (mrows W).length := by
  have wl := getD_lt h hl
  have wh := getD_lt h hh
  rw [mrows_len]
  unfold pst
  dsimp only
  split
  · exact mul_lt wh wl
  · exact mul_lt wl wh
/-- the pair in the table goes as the two in the list -/
theorem sim (o : WOk W) (hm : ∀ x ∈ marks, x < W.length) (hc : ∀ c ∈ calls, c < marks.length) {lo hi : Nat} (hl : lo < marks.length) (hh : hi < marks.length) (lh : lo < hi) : ∀ i,
    prs (mrows W) (pst W lo hi (List.range marks.length, marks)) (own calls lo hi i) = pst W lo hi (rns W marks calls i) ∧
    prun (mrows W) (pst W lo hi (List.range marks.length, marks)) (own calls lo hi i) = (mine calls lo hi i).map fun k => ahd (rns W marks calls (k + 1)).1 hi lo
  | 0 => ⟨rfl, rfl⟩
  | i + 1 => by
    obtain ⟨h1, h2⟩ := sim o hm hc hl hh lh i
    have r0 := rns_ok o hm hc 0
    have ri := rns_ok o hm hc i
    have ne : lo ≠ hi := by omega
    have e3 : rns W marks calls (i + 1) = match calls[i]? with | none => rns W marks calls i | some c => stp W (rns W marks calls i) c := rfl
    have hmi := mine_succ calls lo hi i
    cases h : calls[i]? with
    | none =>
      rw [h] at hmi e3
      rw [if_neg (by simp), List.append_nil] at hmi
      have : own calls lo hi (i + 1) = own calls lo hi i := by unfold own; rw [hmi]
      rw [this, hmi, e3]
      exact ⟨h1, h2⟩
    | some c =>
      rw [h] at hmi e3
      have hcm := hc c (List.mem_of_getElem? h)
      by_cases hin : c = lo ∨ c = hi
      · rw [if_pos (by rcases hin with rfl | rfl <;> simp)] at hmi
        have eo : own calls lo hi (i + 1) = own calls lo hi i ++ [decide (c = hi)] := by
          unfold own
          rw [hmi, List.map_append, List.map_singleton, h]
          simp
        obtain ⟨_, r, g1, g2, g3⟩ := prs_snoc (mrows_ok o) (own calls lo hi i) (pst W lo hi (List.range marks.length, marks)) (decide (c = hi)) (pst_lt o r0 hl hh)
        rw [h1] at g1 g2 g3
        obtain ⟨r', q1, q2⟩ := pst_step o ri hl hh ne hin
        rw [q1] at g1
        cases g1
        rw [eo, g2, g3, h2, hmi, List.map_append, List.map_singleton, e3]
        refine ⟨q2.symm, ?_⟩
        congr 2
        have := congrArg Prod.snd q2
        exact this.symm
      · have hin1 : c ≠ lo := fun z => hin (.inl z)
        have hin2 : c ≠ hi := fun z => hin (.inr z)
        rw [if_neg (by simp [hin1, hin2]), List.append_nil] at hmi
        have : own calls lo hi (i + 1) = own calls lo hi i := by unfold own; rw [hmi]
        rw [this, hmi, e3]
        exact ⟨h1.trans (pst_other ri hl hh hcm hin1 hin2).symm, h2⟩
/-- at the beginning -/
theorem pst_0 {m lo hi : Nat} (lh : lo < hi) (hh : hi < m) : pst W lo hi (List.range m, marks) = (marks.getD lo 0 * W.length + marks.getD hi 0, false) := by
  have e : ∀ x, x < m → LF.ix (List.range m) x = x := fun x hx => LF.ix_get List.nodup_range (List.getElem?_range hx)
  have : ahd (List.range m) hi lo = false := by
    unfold ahd
    rw [e hi hh, e lo (by omega)]
    exact decide_eq_false (by omega)
  unfold pst
  rw [this]
  rfl
end MK

set_option maxHeartbeats 8000000
namespace PA
open PySem L2 RZ
open C8 (pss_cut tCut)
open PA.N (pe_lcTwo lcN_it)
abbrev sIsM : Stmt := top 38
abbrev sMrow : Stmt := top 25
abbrev sMrows : Stmt := top 24
abbrev sMarked : Stmt := top 35
/-! ### cells -/
inductive Cell : V → Prop
  | int (i : Int) : Cell (.int i)
  | bl (b : Bool) : Cell (.bl b)
  | non : Cell .non
  | str (s : Str) : Cell (.str s)
def isI : V → Bool
  | .int _ => true
  | _ => false
def isB : V → Bool
  | .bl _ => true
  | _ => false
def below (n : Nat) : V → Bool
  | .int i => decide (0 ≤ i) && decide (i < (n : Int))
  | _ => false
theorem Cell.flat {v : V} (c : Cell v) : flatV v = true := by cases c <;> rfl
theorem Cell.ty {K : PySem.W.Frag} {H : Hp} {v : V} (c : Cell v) : ∃ t, TyX K H v (.type t) ∧ PySem.W.kitOne K (.type t) (.type "int") = some (isI v || isB v) ∧ PySem.W.kitOne K (.type t) (.type "bool") = some (isB v) := by
  cases c with
  | int i => exact ⟨"int", .base (.int i), kit_ty (b := "int") (r := true) (by decide +kernel), kit_ty (b := "bool") (r := false) (by decide +kernel)⟩
  | bl b => exact ⟨"bool", .base (.bl b), kit_ty (b := "int") (r := true) (by decide +kernel), kit_ty (b := "bool") (r := true) (by decide +kernel)⟩
  | non => exact ⟨"NoneType", .base .non, kit_ty (b := "int") (r := false) (by decide +kernel), kit_ty (b := "bool") (r := false) (by decide +kernel)⟩
  | str s => exact ⟨"str", .base (.str s), kit_ty (b := "int") (r := false) (by decide +kernel), kit_ty (b := "bool") (r := false) (by decide +kernel)⟩
def movesV : List V := [.str "front", .str "back", .str "keep"]
def mOk (n : Nat) (r : V × V) : Bool := below n r.1 && inV r.2 movesV
def wordS : Nat → Str
  | 0 => "front"
  | 1 => "back"
  | _ => "keep"
def encW (r : Nat × Nat) : V × V := (.int (r.1 : Int), .str (wordS r.2))
structure TxtM (mg : Str → Option Value) (K : PySem.W.Frag) : Prop where
  moves : ∃ d, mg "MOVES" = some (.ref d) ∧ ∀ H, SqT K H d movesV
  four : ∃ t, mg "MOST_MARKS" = some (.int 4 t)
def isWr (H : Hp) (c : Addr) (r : Nat × Nat) : Prop := H c = some (.tup [.int (r.1 : Int), .str (wordS r.2)])
theorem word_back {w : Nat} (h : w < 3) : (V.str (wordS w) = V.str "back") ↔ w = 1 := by
  match w, h with
  | 0, _ => exact ⟨fun z => absurd z (by decide +kernel), fun z => absurd z (by decide)⟩
  | 1, _ => exact ⟨fun _ => rfl, fun _ => rfl⟩
  | 2, _ => exact ⟨fun z => absurd z (by decide +kernel), fun z => absurd z (by decide)⟩
theorem word_front {w : Nat} (h : w < 3) : (V.str (wordS w) = V.str "front") ↔ w = 0 := by
  match w, h with
  | 0, _ => exact ⟨fun _ => rfl, fun _ => rfl⟩
  | 1, _ => exact ⟨fun z => absurd z (by decide +kernel), fun z => absurd z (by decide)⟩
  | 2, _ => exact ⟨fun z => absurd z (by decide +kernel), fun z => absurd z (by decide)⟩
theorem word_keep {w : Nat} (h : w < 3) : (V.str (wordS w) = V.str "keep") ↔ w = 2 := by
  match w, h with
  | 0, _ => exact ⟨fun z => absurd z (by decide +kernel), fun z => absurd z (by decide)⟩
  | 1, _ => exact ⟨fun z => absurd z (by decide +kernel), fun z => absurd z (by decide)⟩
  | 2, _ => exact ⟨fun _ => rfl, fun _ => rfl⟩
theorem word_in {w : Nat} (h : w < 3) : inV (.str (wordS w)) movesV = true := by
  match w, h with
  | 0, _ => decide +kernel
  | 1, _ => decide +kernel
  | 2, _ => decide +kernel
theorem below_nat {n x : Nat} : below n (.int (x : Int)) = decide (x < n) := by
  show (decide ((0 : Int) ≤ (x : Int)) && decide ((x : Int) < (n : Int))) = _
  rw [decide_eq_true (by omega), Bool.true_and, Bool.eq_iff_iff, decide_eq_true_iff, decide_eq_true_iff]
  omega
theorem enc_ok {W : MK.Wt} (o : MK.WOk W) : (W.map encW).all (mOk (W.map encW).length) = true := by
  rw [List.all_eq_true]
  intro r hr
  obtain ⟨z, hz, rfl⟩ := List.mem_map.mp hr
  obtain ⟨h1, h2⟩ := o.ok z hz
  rw [List.length_map]
  show (below W.length (.int (z.1 : Int)) && inV (.str (wordS z.2)) movesV) = true
  rw [below_nat, decide_eq_true h1, word_in h2]
  rfl
theorem num3 (q n a : Nat) : (q : Int) * (n : Int) + (a : Int) = ((q * n + a : Nat) : Int) := by simp
theorem catA {K : PySem.W.Frag} {H : Hp} {a b : Addr} {xs ys : List V} {Q : VK} (ha : H a = some (.tup xs)) (hb : H b = some (.tup ys)) (hl : xs.length + ys.length ≤ sizeLine) (hy : ys ≠ []) (kk : ∀ p H', Same H H' → H' p = some (.tup (xs ++ ys)) → Q (.ref p) H') : rCatA K (.ref a) (.ref b) H Q :=
  ⟨a, b, xs, ys, rfl, rfl, SqT.of ha, SqT.of hb, hl, fun e => kk b H (fun _ _ h => h) (by rw [e]; exact hb), fun _ e => absurd e hy, fun _ _ p hp => kk p _ (Same.new hp) upd_same⟩
/-! ### promises -/
def spIsIntC : Sp := fun vs H Q _ => ∃ v, vs = [v] ∧ Cell v ∧ Q (.bl (isI v)) H
def spBelowC : Sp := fun vs H Q _ => ∃ (v : V) (n : Nat), vs = [v, .int (n : Int)] ∧ Cell v ∧ Q (.bl (below n v)) H
def spIsM : Sp := fun vs H Q _ => ∃ (p : Addr) (x y : V) (n : Nat), vs = [.ref p, .int (n : Int)] ∧ H p = some (.tup [x, y]) ∧ Cell x ∧ Cell y ∧ Q (.bl (mOk n (x, y))) H
def spMrow : Sp := fun vs H Q _ => ∃ (R : Addr) (refs : List V) (W : MK.Wt) (p q : Nat), vs = [.ref R, .int (p : Int), .int (q : Int)] ∧ H R = some (.lst refs) ∧ Ea H isWr refs W ∧ MK.WOk W ∧ p < W.length ∧ q < W.length ∧
  ∀ t H', Same H H' → H' t = some (.tup (rv (rz (MK.mrow W p q)))) → Q (.ref t) H'
def spMrows : Sp := fun vs H Q _ => ∃ (R : Addr) (refs : List V) (W : MK.Wt), vs = [.ref R] ∧ H R = some (.lst refs) ∧ Ea H isWr refs W ∧ MK.WOk W ∧
  ∀ L refs' H', Same H H' → H' L = some (.lst refs') → Each H' isT refs' ((MK.mrows W).map rz) → Q (.ref L) H'
section
variable {P : Program} {w : World} {K : PySem.W.Frag} {mg : Str → Option Value} {base : Heap} {C : Addr}
theorem ok_isIntC {f : Addr} {fd : FuncData} (F : Fun K "is_integer" "is_integer" sIsInt f fd) (T : Txt K mg C) : FnOk P w K mg base CX0 1 f fd ["value"] spIsIntC := by
  refine F.ok scIsInt (fun vs H Q E h => ?_) (fun cdv A outer s H vs Q E hr h => ?_)
  · obtain ⟨i, rfl, _⟩ := h
    rfl
  · obtain ⟨v, rfl, hc, k⟩ := h
    refine ⟨_, pss_one (ps_ret (pe_and (pe_callB call_isi (by rfl) T.isi boot_isi (pa_cons (pv 0) (pa_cons (pe_bltn (v := .ty "int") (by rfl) T.int_ boot_int' rfl) pa_nil)))
      (pe_one (pe_not (pe_callB call_isi (by rfl) T.isi boot_isi (pa_cons (pv 0) (pa_cons (pe_bltn (v := .ty "bool") (by rfl) T.bool_ boot_bool' rfl) pa_nil))))))), ?_⟩
    obtain ⟨t, ht, k1, k2⟩ := hc.ty (K := K)
    refine ⟨_, rfl, _, _, _, _, _, rfl, .ty _, ht, k1, _, rfl, ?_⟩
    cases v with
    | int i => exact iteT ⟨_, rfl, _, _, _, _, _, rfl, .ty _, ht, k2, _, rfl, k⟩
    | bl b => exact iteT ⟨_, rfl, _, _, _, _, _, rfl, .ty _, ht, k2, _, rfl, k⟩
    | _ => exact iteF k
theorem ok_belowC {f g : Addr} {fd gd : FuncData} (F : Fun K "is_below" "is_below" sBelow f fd) (T : Txt K mg C) (D : Df K mg "is_integer" sIsInt g gd ["value"]) : FnOk P w K mg base CX0 2 f fd ["value", "count"] spBelowC := by
  have G : FnOk P w K mg base CX0 1 g gd ["value"] spIsIntC := ok_isIntC D.F T
  refine F.ok scBelow (fun vs H Q E h => ?_) (fun cdv A outer s H vs Q E hr h => ?_)
  · obtain ⟨v, c, rfl, _⟩ := h
    rfl
  · obtain ⟨v, n, rfl, hc, k⟩ := h
    refine ⟨_, pss_one (ps_ret (pe_and (pe_call G hr rfl D.M D.F.kp D.B .nil pass0 (pa_cons (pv 0) pa_nil)) (pe_one (pe_chain op_le op_lt pe_int (pv 0) (pv 1))))), ?_⟩
    refine ⟨_, rfl, v, rfl, hc, _, rfl, ?_⟩
    cases v with
    | int i =>
      refine iteT ⟨_, rfl, _, _, rfl, rfl, _, rfl, ifD_2 (fun h0 => ⟨_, rfl, _, _, rfl, rfl, ?_⟩) fun h0 => ?_⟩
      · show Q (V.bl (decide (i < (n : Int)))) H
        have e : below n (.int i) = decide (i < (n : Int)) := by show (decide (0 ≤ i) && decide (i < (n : Int))) = _; rw [decide_eq_true h0, Bool.true_and]
        rw [← e]
        exact k
      · have e : below n (.int i) = false := by show (decide (0 ≤ i) && decide (i < (n : Int))) = _; rw [decide_eq_false h0, Bool.false_and]
        rw [e] at k
        exact k
    | _ => exact iteF k
theorem scIsM : FnScope ["row", "count"] ["row", "count"] (defScope sIsM) := ⟨rfl, rfl, rfl, by decide +kernel, rfl, by decide +kernel, by decide +kernel⟩
theorem ok_isM {f g1 g2 : Addr} {fd gd1 gd2 : FuncData} (F : Fun K "_is_marked_row" "_is_marked_row" sIsM f fd) (T : Txt K mg C) (TM : TxtM mg K) (D1 : Df K mg "is_integer" sIsInt g1 gd1 ["value"]) (D2 : Df K mg "is_below" sBelow g2 gd2 ["value", "count"]) : FnOk P w K mg base CX0 3 f fd ["row", "count"] spIsM := by
  have G : FnOk P w K mg base CX0 2 g2 gd2 ["value", "count"] spBelowC := ok_belowC D2.F T D1
  obtain ⟨dm, hdm, hmv⟩ := TM.moves
  refine F.ok scIsM (fun vs H Q E h => ?_) (fun cdv A outer s H vs Q E hr h => ?_)
  · obtain ⟨p, _, _, n, rfl, _⟩ := h
    rfl
  · obtain ⟨p, x, y, n, rfl, hp, cx, cy, k⟩ := h
    refine ⟨_, pss_one (ps_ret (pe_and (pe_cmpR op_eq (pe_callB call_len_seq (by rfl) T.len_ PySem.boot_len (pa_cons (pv 0) pa_nil)) pe_int (nomark _))
      (pe_and (pe_call G hr rfl D2.M D2.F.kp D2.B .nil pass0 (pa_cons (pe_ix ix_tup (pv 0) pe_int (fun _ _ => rfl)) (pa_cons (pv 1) pa_nil)))
        (pe_one (pe_cmpR op_in_seq (pe_ix ix_tup (pv 0) pe_int (fun _ _ => rfl)) (pe_glob (v := .ref dm) rfl hdm rfl) rfl))))), ?_⟩
    refine ⟨_, rfl, p, _, rfl, .inr (SqT.of hp), rfl, _, rfl, iteT ?_⟩
    refine ⟨_, rfl, p, _, 0, _, rfl, rfl, SqT.of hp, rfl, _, rfl, x, n, rfl, cx, _, rfl, ?_⟩
    cases e : below n x with
    | false =>
      have e2 : mOk n (x, y) = false := by show (below n x && _) = false; rw [e]; rfl
      rw [e2] at k
      exact iteF k
    | true =>
      have e2 : mOk n (x, y) = inV y movesV := by show (below n x && _) = _; rw [e]; rfl
      rw [e2] at k
      refine iteT ⟨_, rfl, p, _, 1, _, rfl, rfl, SqT.of hp, rfl, dm, _, rfl, .inr (hmv _), cy.flat, rfl, k⟩
end
end PA

set_option maxHeartbeats 8000000
namespace PA
open PySem L2 RZ
open C8 (pss_cut tCut)
open PA.N (pe_lcTwo lcN_it)
abbrev NMrow : List Str := ["rows", "ahead", "behind", "count", "after_ahead", "word_ahead", "first", "after_behind", "word_behind", "second"]
theorem eaRow {H : Hp} {refs : List V} {W : MK.Wt} (e : Ea H isWr refs W) {p : Nat} (hp : p < W.length) : ∃ c, refs[p]? = some (.ref c) ∧ isWr H c (MK.wat W p) := e.get (MK.wat_at hp)
/-- the rows of the marked table that were made so far -/
def MAcc (H1 : Hp) (D : Addr) (W : MK.Wt) (c : Nat) (H' : Hp) : Prop := Same H1 H' ∧ ∃ acc, H' D = some (.lst acc) ∧ Each H' isT acc (((List.range c).map fun i => MK.mrow W (i / W.length) (i % W.length)).map rz)
theorem MAcc.at {H1 H' : Hp} {D : Addr} {W : MK.Wt} {c d : Nat} (h : MAcc H1 D W c H') (e : c = d) : MAcc H1 D W d H' := e ▸ h
section
variable {P : Program} {w : World} {K : PySem.W.Frag} {mg : Str → Option Value} {base : Heap} {C : Addr}
theorem scMrow : FnScope NMrow ["rows", "ahead", "behind"] (defScope sMrow) := ⟨rfl, rfl, rfl, by decide +kernel, rfl, by decide +kernel, by decide +kernel⟩
theorem ok_mrow {f : Addr} {fd : FuncData} (F : Fun K "_marked_row" "_marked_row" sMrow f fd) (T : Txt K mg C) : FnOk P w K mg base CX0 1 f fd ["rows", "ahead", "behind"] spMrow := by
  refine F.ok scMrow (fun vs H Q E h => ?_) (fun cdv A outer s H vs Q E hr h => ?_)
  · obtain ⟨R, _, _, p, q, rfl, _⟩ := h
    rfl
  · obtain ⟨R, refs, W, p, q, rfl, hR, hE, o, hp, hq, kk⟩ := h
    refine ⟨_, pss_cons (ps_set (i := 3) scMrow.nd rfl (Or.inl rfl) (pe_callB call_len_seq (by rfl) T.len_ PySem.boot_len (pa_cons (pv 0) pa_nil)))
      (pss_cons (ps_asg (pe_ix ix_list (pv 0) (pv 1) (fun _ _ => rfl)) (pg_tup rfl (pgs_cons (pg_name (i := 4) scMrow.nd rfl (Or.inl rfl)) (pgs_cons (pg_name (i := 5) scMrow.nd rfl (Or.inl rfl)) pgs_nil))))
      (pss_cut (ps_if (pt_cmpR op_eq (pv 5) pe_str (nomark _))
        (pss_one (ps_set (i := 6) scMrow.nd rfl (Or.inl rfl) (pe_tup (pa_cons (pe_op op_add (pe_op op_mul (pv 2) (pv 3)) (pv 4)) (pa_cons pe_bl pa_nil)))))
        (pss_one (ps_set (i := 6) scMrow.nd rfl (Or.inl rfl) (pe_tup (pa_cons (pe_op op_add (pe_op op_mul (pv 4) (pv 3)) (pv 2)) (pa_cons pe_bl pa_nil))))))
      (pss_cons (ps_asg (pe_ix ix_list (pv 0) (pv 2) (fun _ _ => rfl)) (pg_tup rfl (pgs_cons (pg_name (i := 7) scMrow.nd rfl (Or.inl rfl)) (pgs_cons (pg_name (i := 8) scMrow.nd rfl (Or.inl rfl)) pgs_nil))))
      (pss_cut (ps_if (pt_cmpR op_eq (pv 8) pe_str (nomark _))
        (pss_one (ps_set (i := 9) scMrow.nd rfl (Or.inl rfl) (pe_tup (pa_cons (pe_op op_add (pe_op op_mul (pv 7) (pv 3)) (pv 1)) (pa_cons pe_bl pa_nil)))))
        (pss_one (ps_set (i := 9) scMrow.nd rfl (Or.inl rfl) (pe_tup (pa_cons (pe_op op_add (pe_op op_mul (pv 1) (pv 3)) (pv 7)) (pa_cons pe_bl pa_nil))))))
      (pss_one (ps_ret (pe_op op_catA (pv 6) (pv 9)))))))), ?_⟩
    have hl : refs.length = W.length := hE.1
    have h4 := o.four
    obtain ⟨c1, hc1, ht1⟩ := eaRow hE hp
    obtain ⟨c2, hc2, ht2⟩ := eaRow hE hq
    obtain ⟨a1, w1⟩ := MK.wat_ok o hp
    obtain ⟨a2, w2⟩ := MK.wat_ok o hq
    have em : MK.mrow W p q = (if (MK.wat W p).2 = 1 then q * W.length + (MK.wat W p).1 else (MK.wat W p).1 * W.length + q, decide ((MK.wat W p).2 = 1),
      if (MK.wat W q).2 = 0 then (MK.wat W q).1 * W.length + p else p * W.length + (MK.wat W q).1, decide ((MK.wat W q).2 = 0)) := rfl
    rw [em] at kk
    generalize hr1 : MK.wat W p = r1 at ht1 a1 w1 kk
    generalize hr2 : MK.wat W q = r2 at ht2 a2 w2 kk
    refine ⟨_, rfl, R, _, rfl, .inl (SqL.of hR), ?_⟩
    rw [hl]
    generalize W.length = n at *
    refine ⟨_, rfl, _, rfl, R, _, (p : Int), _, rfl, rfl, SqL.of hR, atI_nat hc1, c1, _, rfl, SqT.of ht1, rfl, _, _, rfl, _, _, rfl, rfl, ?_⟩
    refine ⟨fun σ' H' => ∃ t1, σ' = [some (.ref R), some (.int (p : Int)), some (.int (q : Int)), some (.int (n : Int)), some (.int (r1.1 : Int)), some (.str (wordS r1.2)), some (.ref t1), none, none, none] ∧ Same H H' ∧ H' t1 = some (.tup [.int (((if r1.2 = 1 then q * n + r1.1 else r1.1 * n + q : Nat) : Nat) : Int), .bl (decide (r1.2 = 1))]), ?_, ?_⟩
    · refine ⟨_, rfl, rfl, _, rfl, ifD_2 (fun e => ?_) (fun e => ?_)⟩
      · have e' : r1.2 = 1 := (word_back w1).mp e
        refine ⟨_, rfl, _, rfl, _, _, rfl, rfl, .inr ⟨by omega, by omega⟩, _, rfl, _, _, rfl, rfl, by show 2 ≤ sizeLine; decide, fun t ht => ⟨t, rfl, Same.new ht, ?_⟩⟩
        rw [upd_same, if_pos e', decide_eq_true e', ← num3]
      · have e' : ¬ r1.2 = 1 := fun z => e ((word_back w1).mpr z)
        refine ⟨_, rfl, _, rfl, _, _, rfl, rfl, .inr ⟨by omega, by omega⟩, _, rfl, _, _, rfl, rfl, by show 2 ≤ sizeLine; decide, fun t ht => ⟨t, rfl, Same.new ht, ?_⟩⟩
        rw [upd_same, if_neg e', decide_eq_false e', ← num3]
    rintro _ H1 ⟨t1, rfl, s1, ht1'⟩
    refine ⟨_, rfl, _, rfl, R, _, (q : Int), _, rfl, rfl, SqL.of (s1 _ _ hR), atI_nat hc2, c2, _, rfl, SqT.of (s1 _ _ ht2), rfl, _, _, rfl, _, _, rfl, rfl, ?_⟩
    refine ⟨fun σ' H' => ∃ t2, σ' = [some (.ref R), some (.int (p : Int)), some (.int (q : Int)), some (.int (n : Int)), some (.int (r1.1 : Int)), some (.str (wordS r1.2)), some (.ref t1), some (.int (r2.1 : Int)), some (.str (wordS r2.2)), some (.ref t2)] ∧ Same H1 H' ∧ H' t2 = some (.tup [.int (((if r2.2 = 0 then r2.1 * n + p else p * n + r2.1 : Nat) : Nat) : Int), .bl (decide (r2.2 = 0))]), ?_, ?_⟩
    · refine ⟨_, rfl, rfl, _, rfl, ifD_2 (fun e => ?_) (fun e => ?_)⟩
      · have e' : r2.2 = 0 := (word_front w2).mp e
        refine ⟨_, rfl, _, rfl, _, _, rfl, rfl, .inr ⟨by omega, by omega⟩, _, rfl, _, _, rfl, rfl, by show 2 ≤ sizeLine; decide, fun t ht => ⟨t, rfl, Same.new ht, ?_⟩⟩
        rw [upd_same, if_pos e', decide_eq_true e', ← num3]
      · have e' : ¬ r2.2 = 0 := fun z => e ((word_front w2).mpr z)
        refine ⟨_, rfl, _, rfl, _, _, rfl, rfl, .inr ⟨by omega, by omega⟩, _, rfl, _, _, rfl, rfl, by show 2 ≤ sizeLine; decide, fun t ht => ⟨t, rfl, Same.new ht, ?_⟩⟩
        rw [upd_same, if_neg e', decide_eq_false e', ← num3]
    rintro _ H2 ⟨t2, rfl, s2, ht2'⟩
    refine ⟨_, rfl, _, rfl, catA (s2 _ _ ht1') ht2' (by show 4 ≤ sizeLine; decide) (by intro z; cases z) fun t H' s3 hp => kk t H' ((s1.trans s2).trans s3) ?_⟩
    rw [hp]
    rfl
theorem scMrows : FnScope ["rows", "count", "ahead", "behind"] ["rows"] (defScope sMrows) := ⟨rfl, rfl, rfl, by decide +kernel, rfl, by decide +kernel, by decide +kernel⟩
theorem ok_mrows {f g : Addr} {fd gd : FuncData} (F : Fun K "marked_rows" "marked_rows" sMrows f fd) (T : Txt K mg C) (D : Df K mg "_marked_row" sMrow g gd ["rows", "ahead", "behind"]) : FnOk P w K mg base CX0 2 f fd ["rows"] spMrows := by
  have G : FnOk P w K mg base CX0 1 g gd ["rows", "ahead", "behind"] spMrow := ok_mrow D.F T
  refine F.ok scMrows (fun vs H Q E h => ?_) (fun cdv A outer s H vs Q E hr h => ?_)
  · obtain ⟨R, _, _, rfl, _⟩ := h
    rfl
  · obtain ⟨R, refs, W, rfl, hR, hE, o, kk⟩ := h
    refine ⟨_, pss_cons (ps_set (i := 1) scMrows.nd rfl (Or.inr rfl) (pe_callB call_len_seq (by rfl) T.len_ PySem.boot_len (pa_cons (pv 0) pa_nil)))
      (pss_one (ps_ret (pe_lcTwo (own := [("ahead", 2), ("behind", 3)]) (v1 := [3]) (g0 := gName 2) (g1 := gName 3) (c0 := tYes) (c1 := tYes) (by rfl) scMrows.nd (pi_range1 (by rfl) T.range_ (pa_cons (pv 1) pa_nil))
        (blkOk_by (N := ["rows", "count", "ahead", "behind"]) (sc := defScope sMrows) (by decide +kernel)) (by decide)
        (fun _ _ _ _ _ => pg_name (i := 2) scMrows.nd rfl (Or.inl rfl)) (fun _ _ _ _ _ => pts_nil)
        (fun _ _ _ _ _ => pi_range1 (by rfl) T.range_ (pa_cons (pv 1) pa_nil)) (fun _ _ _ _ _ => pg_name (i := 3) scMrows.nd rfl (Or.inl rfl)) (fun _ _ _ _ _ => pts_nil)
        (fun _ _ _ _ _ => pe_call G hr rfl D.M D.F.kp D.B .nil pass0 (pa_cons (pv 0) (pa_cons (pv 2) (pa_cons (pv 3) pa_nil))))))), ?_⟩
    have hl : refs.length = W.length := hE.1
    have h4 := o.four
    refine ⟨_, rfl, R, _, rfl, .inl (SqL.of hR), ?_⟩
    rw [hl]
    refine ⟨_, rfl, (W.length : Int), rfl, by omega, by omega, fun Dd hD => ?_⟩
    have eD := Same.new (o := .lst []) hD
    have nn : W.length * W.length ≤ 16 := by
      have := Nat.mul_le_mul h4 h4
      omega
    refine lcN_it (walk_range (lo := 0) (n := ((W.length : Int)).toNat)) (fun i H' => MAcc H Dd W (i * W.length) H') (MAcc.at (c := 0) ⟨eD, [], upd_same, Each.nil⟩ (by omega)) (fun _ _ _ _ => True.intro) ?_ ?_
    · rintro i x H1 H1' hi R1 ⟨rfl, hx⟩
      have hx : x = V.int (0 + (i : Int)) := hx
      rw [Int.zero_add] at hx
      subst hx
      have hi : i < W.length := hi
      refine ⟨rfl, ?_⟩
      dsimp only [tYes]
      rw [if_pos rfl]
      refine ⟨_, rfl, (W.length : Int), rfl, by omega, by omega, ?_⟩
      refine lcN_it (walk_range (lo := 0) (n := ((W.length : Int)).toNat)) (fun j H' => MAcc H Dd W (i * W.length + j) H') R1 (fun _ _ _ _ => True.intro) ?_ ?_
      · rintro j x H3 H3' hj ⟨s3, acc, hd, he⟩ ⟨rfl, hx⟩
        have hx : x = V.int (0 + (j : Int)) := hx
        rw [Int.zero_add] at hx
        subst hx
        have hj : j < W.length := hj
        refine ⟨rfl, ?_⟩
        dsimp only [tYes]
        rw [if_pos rfl]
        refine ⟨_, rfl, _, rfl, _, rfl, R, refs, W, i, j, rfl, s3 _ _ hR, hE.imp (fun c r q => s3 _ _ q), o, hi, hj, fun t H5 s5 ht => ?_⟩
        have hn : acc.length = i * W.length + j := by
          have := he.1
          rwa [List.length_map, List.length_map, List.length_range] at this
        have hlt := MK.mul_lt hi hj
        have hd5 := s5 _ _ hd
        refine ⟨acc, hd5, ?_, ?_, acc ++ [.ref t], upd_same, ?_⟩
        · rw [hn]
          exact Nat.lt_of_lt_of_le (by omega : i * W.length + j < 16) (by decide)
        · intro b o e
          rw [upd_ne (ne_of_none e hD)]
          exact s5 _ _ (s3 _ _ e)
        · have tk : ∀ b r, isT H5 b r → isT (upd H5 Dd (.lst (acc ++ [.ref t]))) b r := fun b r e => by
            show (upd H5 Dd (.lst (acc ++ [.ref t]))) b = _
            rw [upd_ne (ne_of (H := H5) e hd5 (by intro z; cases z))]
            exact e
          have e1 : (i * W.length + j) / W.length = i := by rw [Nat.mul_comm i, Nat.mul_add_div (by omega), Nat.div_eq_of_lt hj, Nat.add_zero]
          have e2 : (i * W.length + j) % W.length = j := by rw [Nat.mul_comm i, Nat.mul_add_mod, Nat.mod_eq_of_lt hj]
          rw [show i * W.length + (j + 1) = (i * W.length + j) + 1 from rfl, List.range_succ, List.map_append, List.map_append]
          refine ((he.sameT s5).imp tk).push ?_
          dsimp only
          rw [e1, e2]
          exact tk _ _ ht
      · intro H4 R4
        exact R4.at (by show i * W.length + W.length = _; rw [Nat.succ_mul])
    · rintro H1 ⟨s1, acc, hd, he⟩
      exact kk Dd acc H1 s1 hd he
end
end PA

set_option maxHeartbeats 8000000
namespace PA
open PySem L2 RZ
open C8 (pss_cut tCut)
/-- the error class InvalidRule -/
structure TxtX (K : PySem.W.Frag) (mg : Str → Option Value) (X : Addr) : Prop where
  x : PySem.W.excIn K X [.type "ValueError", .type "Exception", .type "BaseException", .type "object"] "ValueError.__new__" = true
  g : mg "InvalidRule" = some (.ref X)
  k : PySem.W.keepIn K (.ref X) = true
  b : PySem.W.subIn K (.ref X) (.type "BaseException") = some true
  t : PySem.W.typeIn K (.ref X) = some (.type "type")
  e : PySem.W.exmOne K (.ref X) (.ref X) = some true
def isSr (K : PySem.W.Frag) (H : Hp) (c : Addr) (r : V × V) : Prop := H c = some (.lst [r.1, r.2]) ∨ H c = some (.tup [r.1, r.2])
def isTr (H : Hp) (c : Addr) (r : V × V) : Prop := H c = some (.tup [r.1, r.2])
def mBad (rows : List (V × V)) : Prop := rows.length = 0 ∨ 4 < rows.length ∨ rows.all (mOk rows.length) = false
/-- the rule of marked rows -/
def MRule (K : PySem.W.Frag) (C : Addr) (H : Hp) (q : Addr) (W : MK.Wt) : Prop :=
  RuleZ K C H q (LF.lf (MK.mrows W) (List.range (W.length * W.length))).1 (LF.lf (MK.mrows W) (List.range (W.length * W.length))).2 (W.length : Int)
def spMarked (K : PySem.W.Frag) (C X : Addr) : Sp := fun vs H Q E => ∃ (G : Addr) (refs : List V) (rows : List (V × V)), vs = [.ref G] ∧ Sq K H G refs ∧ Ea H (isSr K) refs rows ∧ rows.length ≤ 10 ∧ (∀ r ∈ rows, Cell r.1 ∧ Cell r.2) ∧
  ((∃ W, rows = W.map encW ∧ MK.WOk W ∧ ∀ q H', Same H H' → MRule K C H' q W → Q (.ref q) H') ∨ (mBad rows ∧ ∀ H', Same H H' → E (.ref X) none H'))
theorem mgood {W : MK.Wt} (o : MK.WOk W) : GoodN (MK.mrows W) (List.range (W.length * W.length)) (W.length : Int) := by
  have h4 := o.four
  have h1 := o.one
  refine ⟨MK.mrows_ok o, fun x hx => by rw [MK.mrows_len]; exact List.mem_range.mp hx, ?_, ?_⟩
  · rw [MK.mrows_len]
    have := Nat.mul_le_mul h4 h4
    omega
  · rw [List.length_range]
    generalize W.length = n at *
    match n, h1, h4 with
    | 1, _, _ => exact .r1
    | 2, _, _ => exact .r2
    | 3, _, _ => exact .r3
    | 4, _, _ => exact .r4
theorem isTr.lst {H : Hp} {c D : Addr} {r : V × V} {xs ys : List V} (q : isTr H c r) (hD : H D = some (.lst xs)) : isTr (upd H D (.lst ys)) c r := by
  unfold isTr
  rw [upd_ne (ne_of (H := H) q hD (by intro z; cases z))]
  exact q
structure LibM (K : PySem.W.Frag) (mg : Str → Option Value) (C X fI dd g1 g2 g3 g4 fLe m1 m2 m3 f1 f2 f3 f4 f5 f6 f7 : Addr) (dI gd1 gd2 gd3 gd4 dLe e1 e2 e3 d1 d2 d3 d4 d5 d6 d7 : FuncData) : Prop where
  T : Txt K mg C
  TM : TxtM mg K
  TX : TxtX K mg X
  I : FunI K fI dI dd
  M : Mk K C fI
  b2 : Binds K dI ["self", "rows", "starts"] []
  D1 : Df K mg "is_integer" sIsInt g1 gd1 ["value"]
  D2 : Df K mg "is_below" sBelow g2 gd2 ["value", "count"]
  D3 : Df K mg "_is_row" sIsRow g3 gd3 ["row", "count"]
  D4 : Df K mg "_check_table" sCheck g4 gd4 ["rows", "starts"]
  FL : Fun K "least" "Rule.least" sLeast fLe dLe
  bL : Binds K dLe ["self"] []
  mL : Meth K C "least" fLe
  M1 : Df K mg "_is_marked_row" sIsM m1 e1 ["row", "count"]
  M2 : Df K mg "_marked_row" sMrow m2 e2 ["rows", "ahead", "behind"]
  M3 : Df K mg "marked_rows" sMrows m3 e3 ["rows"]
  LF : LibF K mg f1 f2 f3 f4 f5 f6 f7 d1 d2 d3 d4 d5 d6 d7
section
variable {P : Program} {w : World} {K : PySem.W.Frag} {mg : Str → Option Value} {base : Heap} {C X fI dd g1 g2 g3 g4 fLe m1 m2 m3 f1 f2 f3 f4 f5 f6 f7 : Addr} {dI gd1 gd2 gd3 gd4 dLe e1 e2 e3 d1 d2 d3 d4 d5 d6 d7 : FuncData}
theorem scMarked : FnScope ["rows", "table", "row"] ["rows"] (defScope sMarked) := ⟨rfl, rfl, rfl, by decide +kernel, rfl, by decide +kernel, by decide +kernel⟩
theorem ok_marked {f : Addr} {fd : FuncData} (F : Fun K "marked" "marked" sMarked f fd) (L : LibM K mg C X fI dd g1 g2 g3 g4 fLe m1 m2 m3 f1 f2 f3 f4 f5 f6 f7 dI gd1 gd2 gd3 gd4 dLe e1 e2 e3 d1 d2 d3 d4 d5 d6 d7) : FnOk P w K mg base (L2.CX P w) 8 f fd ["rows"] (spMarked K C X) := by
  have T := L.T
  have TX := L.TX
  have GI : FnOk P w K mg base CX0 5 fI dI ["self", "rows", "starts"] (spInit K C) := ok_init L.I T L.D1 L.D2 L.D3 L.D4
  have GL : FnOk P w K mg base CX0 7 fLe dLe ["self"] (spLeastM K C) := ok_leastM L.FL T L.I L.M L.b2 L.D1 L.D2 L.D3 L.D4 L.LF
  have G1 : FnOk P w K mg base CX0 3 m1 e1 ["row", "count"] spIsM := ok_isM L.M1.F T L.TM L.D1 L.D2
  have G3 : FnOk P w K mg base CX0 2 m3 e3 ["rows"] spMrows := ok_mrows L.M3.F T L.M2
  obtain ⟨t4, h4m⟩ := L.TM.four
  refine F.okX scMarked (fun vs H Q E h => ?_) (fun cdv A outer s H vs Q E hr h => ?_)
  · obtain ⟨G, _, _, rfl, _⟩ := h
    rfl
  · obtain ⟨G, refs, rows, rfl, hG, hE, h10, hcr, hk⟩ := h
    have hr3 : Room 3 _ := hr.mono (by decide)
    have hr2 : Room 2 _ := hr.mono (by decide)
    have hr6 : Room 6 _ := hr.mono (by decide)
    refine ⟨_, pss_cut (ps_set (i := 1) scMarked.nd rfl (Or.inr rfl) (pe_lc (own := [("row", 2)]) (g := gName 2) (tt := tYes) (by rfl) scMarked.nd ((pi_list (pv 0)).or (pi_tup (pv 0))) (blkOk_by (N := ["rows", "table", "row"]) (sc := defScope sMarked) (by decide +kernel))
          (fun _ _ _ _ _ => pg_name (i := 2) scMarked.nd rfl (Or.inl rfl)) (fun _ _ _ _ _ => pts_nil)
          (fun _ _ _ _ _ => pe_callTy (call_tupleK (K := K) rfl) (by rfl) T.tup_ boot_tuple' (pa_cons (pv 2) pa_nil))))
      (pss_cons (ps_if (pt_not (pt_chain op_le op_le pe_int (pe_callB call_len_seq (by rfl) T.len_ PySem.boot_len (pa_cons (pv 1) pa_nil)) (pe_glob (v := .int 4) rfl h4m ⟨_, rfl⟩)))
        (pss_one (ps_raise rfl (takes_of rfl rfl rfl rfl) (pmk_own PySem.F.excBase_ValueError TX.x TX.g TX.k (raises_own TX.b TX.t) (by rfl)))) pss_nil)
      (pss_cons (ps_if (pt_not (pt_val (pe_callB (cr_all rfl) (by rfl) T.all_ boot_all' (pa_cons (pe_lc (own := [("row", 2)]) (g := gName 2) (tt := tYes) (by rfl) scMarked.nd (pi_list (pv 1)) (blkOk_by (N := ["rows", "table", "row"]) (sc := defScope sMarked) (by decide +kernel))
          (fun _ _ _ _ _ => pg_name (i := 2) scMarked.nd rfl (Or.inl rfl)) (fun _ _ _ _ _ => pts_nil)
          (fun _ _ _ _ _ => pe_call G1 hr3 rfl L.M1.M L.M1.F.kp L.M1.B .nil pass0 (pa_cons (pv 2) (pa_cons (pe_callB (call_lenK (K := K) rfl) (by rfl) T.len_ PySem.boot_len (pa_cons (pv 1) pa_nil)) pa_nil)))) pa_nil))))
        (pss_one (ps_raise rfl (takes_of rfl rfl rfl rfl) (pmk_own PySem.F.excBase_ValueError TX.x TX.g TX.k (raises_own TX.b TX.t) (by rfl)))) pss_nil)
      (pss_one (ps_ret (pe_meth0 (E := E0) (pe_make (E := E0) L.M GI hr6 rfl T.mgC L.b2 .nil pass0 (pa_cons (pe_call G3 hr2 rfl L.M3.M L.M3.F.kp L.M3.B .nil pass0 (pa_cons (pv 1) pa_nil))
        (pa_cons (pe_listRg (by rfl) (by rfl) T.list_ (prg_1 (by rfl) T.range_ (pe_op op_mul (pe_callB call_len_seq (by rfl) T.len_ PySem.boot_len (pa_cons (pv 1) pa_nil)) (pe_callB call_len_seq (by rfl) T.len_ PySem.boot_len (pa_cons (pv 1) pa_nil))))) pa_nil))) T.cl L.mL GL hr L.bL .nil pass0))))), ?_⟩
    have hlr : refs.length = rows.length := hE.1
    refine ⟨fun σ' H' => ∃ D acc, σ' = [some (.ref G), some (.ref D), none] ∧ Same H H' ∧ H' D = some (.lst acc) ∧ Ea H' isTr acc rows, ?_, ?_⟩
    · rcases hG with hG | hG
      · refine .inl ⟨_, rfl, G, rfl, ⟨_, hG⟩, fun Dd hD => ?_⟩
        refine lc_list (K := K) (a := G) (xs := refs) (fun i H' => Same H H' ∧ ∃ acc, H' Dd = some (.lst acc) ∧ Ea H' isTr acc (rows.take i)) ⟨Same.new hD, [], upd_same, by rw [List.take_zero]; exact Ea.nil⟩ (fun i H' _ q => SqL.up hG q.1) ?_ ?_
        · rintro i x H' hx ⟨sm, acc, hd, he⟩
          have hi : i < rows.length := by rw [← hlr]; exact (List.getElem?_eq_some_iff.mp hx).1
          have hr' : rows[i]? = some rows[i] := List.getElem?_eq_getElem hi
          obtain ⟨c, rfl, hc⟩ := hE.2 i x _ hx hr'
          have hal : acc.length < sizeLine := by
            rw [he.1, List.length_take]
            exact Nat.lt_of_le_of_lt (Nat.le_trans (Nat.min_le_left _ _) (Nat.le_of_lt hi)) (Nat.lt_of_le_of_lt h10 (by decide))
          refine ⟨rfl, ?_⟩
          dsimp only [tYes]
          rw [if_pos rfl]
          rcases hc with hc | hc
          · refine ⟨_, rfl, c, _, rfl, .inl ⟨SqL.of (sm _ _ hc), fun l hl => ⟨acc, ?_, hal, ?_, _, upd_same, ?_⟩⟩⟩
            · rw [upd_ne (ne_of_none hd hl)]
              exact hd
            · intro c' o e
              rw [upd_ne (ne_of_none e hD), upd_ne (ne_of_none (sm _ _ e) hl)]
              exact sm _ _ e
            · have hd' : (upd H' l (.tup [rows[i].1, rows[i].2])) Dd = some (.lst acc) := by rw [upd_ne (ne_of_none hd hl)]; exact hd
              rw [take_succ' hr']
              exact Ea.push ((Ea.imp he fun c' r' q => (show isTr _ c' r' from Same.new hl _ _ q)).imp fun c' r' q => q.lst hd') ((show isTr (upd H' l (.tup [rows[i].1, rows[i].2])) l rows[i] from upd_same).lst hd')
          · refine ⟨_, rfl, c, _, rfl, .inr ⟨SqT.of (sm _ _ hc), acc, hd, hal, ?_, _, upd_same, ?_⟩⟩
            · intro c' o e
              rw [upd_ne (ne_of_none e hD)]
              exact sm _ _ e
            · rw [take_succ' hr']
              exact Ea.push (Ea.imp he fun c' r' q => q.lst hd) ((show isTr H' c rows[i] from sm _ _ hc).lst hd)
        · rintro H1 ⟨s1, acc, hd, he⟩
          rw [hlr, List.take_length] at he
          exact ⟨Dd, acc, rfl, s1, hd, he⟩
      · refine .inr ⟨_, rfl, G, rfl, ⟨_, hG⟩, fun Dd hD => ?_⟩
        refine lc_tup (K := K) (a := G) (xs := refs) (fun i H' => Same H H' ∧ ∃ acc, H' Dd = some (.lst acc) ∧ Ea H' isTr acc (rows.take i)) ⟨Same.new hD, [], upd_same, by rw [List.take_zero]; exact Ea.nil⟩ (fun i H' _ q => SqT.up hG q.1) ?_ ?_
        · rintro i x H' hx ⟨sm, acc, hd, he⟩
          have hi : i < rows.length := by rw [← hlr]; exact (List.getElem?_eq_some_iff.mp hx).1
          have hr' : rows[i]? = some rows[i] := List.getElem?_eq_getElem hi
          obtain ⟨c, rfl, hc⟩ := hE.2 i x _ hx hr'
          have hal : acc.length < sizeLine := by
            rw [he.1, List.length_take]
            exact Nat.lt_of_le_of_lt (Nat.le_trans (Nat.min_le_left _ _) (Nat.le_of_lt hi)) (Nat.lt_of_le_of_lt h10 (by decide))
          refine ⟨rfl, ?_⟩
          dsimp only [tYes]
          rw [if_pos rfl]
          rcases hc with hc | hc
          · refine ⟨_, rfl, c, _, rfl, .inl ⟨SqL.of (sm _ _ hc), fun l hl => ⟨acc, ?_, hal, ?_, _, upd_same, ?_⟩⟩⟩
            · rw [upd_ne (ne_of_none hd hl)]
              exact hd
            · intro c' o e
              rw [upd_ne (ne_of_none e hD), upd_ne (ne_of_none (sm _ _ e) hl)]
              exact sm _ _ e
            · have hd' : (upd H' l (.tup [rows[i].1, rows[i].2])) Dd = some (.lst acc) := by rw [upd_ne (ne_of_none hd hl)]; exact hd
              rw [take_succ' hr']
              exact Ea.push ((Ea.imp he fun c' r' q => (show isTr _ c' r' from Same.new hl _ _ q)).imp fun c' r' q => q.lst hd') ((show isTr (upd H' l (.tup [rows[i].1, rows[i].2])) l rows[i] from upd_same).lst hd')
          · refine ⟨_, rfl, c, _, rfl, .inr ⟨SqT.of (sm _ _ hc), acc, hd, hal, ?_, _, upd_same, ?_⟩⟩
            · intro c' o e
              rw [upd_ne (ne_of_none e hD)]
              exact sm _ _ e
            · rw [take_succ' hr']
              exact Ea.push (Ea.imp he fun c' r' q => q.lst hd) ((show isTr H' c rows[i] from sm _ _ hc).lst hd)
        · rintro H1 ⟨s1, acc, hd, he⟩
          rw [hlr, List.take_length] at he
          exact ⟨Dd, acc, rfl, s1, hd, he⟩
    clear hE hG
    rintro _ H1 ⟨D, acc, rfl, s1, hd, he⟩
    have hlr : acc.length = rows.length := he.1
    refine ⟨_, rfl, D, _, rfl, .inl (SqL.of hd), _, _, rfl, rfl, _, rfl, ?_⟩
    rw [hlr]
    have hb : mBad rows → ∀ H', Same H1 H' → E (.ref X) none H' := fun b H' s' => by
      rcases hk with ⟨W, rfl, o, _⟩ | ⟨_, hk⟩
      · exfalso
        have h4 := o.four
        have h1 := o.one
        have e := enc_ok o
        rcases b with b | b | b
        · rw [List.length_map] at b; omega
        · rw [List.length_map] at b; omega
        · rw [e] at b; cases b
      · exact hk H' (s1.trans s')
    by_cases h1 : 1 ≤ rows.length
    rotate_left
    · exact ifD_no (by omega) ⟨false, rfl, iteT (hb (.inl (by omega)) H1 fun _ _ e => e)⟩
    refine ifD_yes (by omega) ⟨_, _, rfl, rfl, _, rfl, ?_⟩
    by_cases h4 : rows.length ≤ 4
    rotate_left
    · rw [decide_eq_false (by omega)]
      exact iteT (hb (.inr (.inl (by omega))) H1 fun _ _ e => e)
    rw [decide_eq_true (by omega)]
    refine iteF ?_
    refine ⟨_, rfl, D, rfl, ⟨_, SqL.of hd⟩, fun De hDe => ?_⟩
    refine lc_same (xs := acc) (walk_l (K := K) (a := D) (xs := acc)) (by rw [hlr]; exact Nat.le_trans h10 (by decide)) hDe (fun H' s' => SqL.of (s' _ _ hd)) ((rows.map (mOk rows.length)).map V.bl) (by simp [hlr]) (fun i x y H' Φ Ψ hx hy sm k => ?_) fun H2 s2 hd2 => ?_
    · rw [List.getElem?_map, Option.map_eq_some_iff] at hy
      obtain ⟨y, hy, rfl⟩ := hy
      rw [List.getElem?_map, Option.map_eq_some_iff] at hy
      obtain ⟨r, hq, rfl⟩ := hy
      obtain ⟨c, rfl, hc⟩ := he.2 i x _ hx hq
      obtain ⟨cx, cy⟩ := hcr r (List.mem_of_getElem? hq)
      refine ⟨rfl, ?_⟩
      dsimp only [tYes]
      rw [if_pos rfl]
      refine ⟨_, rfl, _, rfl, D, _, rfl, .inl (SqL.of (sm _ _ hd)), c, r.1, r.2, rows.length, congrArg (fun z : Nat => [V.ref c, V.int (z : Int)]) hlr, sm _ _ hc, cx, cy, k H' fun _ _ e => e⟩
    refine ⟨De, _, rfl, SqL.of hd2, ?_⟩
    cases hrow : (rows.map (mOk rows.length)).all id with
    | false =>
      have e1 : rows.all (mOk rows.length) = false := by
        rw [← hrow, List.all_map]
        rfl
      exact ⟨false, rfl, iteT (hb (.inr (.inr e1)) H2 s2)⟩
    | true =>
    have hrow' : rows.all (mOk rows.length) = true := by
      rw [← hrow, List.all_map]
      rfl
    refine ⟨true, rfl, iteF ?_⟩
    rcases hk with ⟨W, rfl, o, kk⟩ | ⟨hb', _⟩
    rotate_left
    · exfalso
      rcases hb' with b | b | b
      · omega
      · omega
      · rw [hrow'] at b; cases b
    have hlW : acc.length = W.length := by rw [hlr, List.length_map]
    have heW : Ea H2 isWr acc W := ⟨hlW, fun i x r hx hr => by
      obtain ⟨c, e, q⟩ := he.2 i x (encW r) hx (by rw [List.getElem?_map, hr]; rfl)
      exact ⟨c, e, s2 _ _ q⟩⟩
    have g := mgood o
    refine ⟨_, rfl, D, acc, W, rfl, s2 _ _ hd, heW, o, fun L0 refs' H3 s3 hL hE3 => ?_⟩
    have hd3 := s3 _ _ (s2 _ _ hd)
    have h4W := o.four
    refine ⟨_, rfl, D, _, rfl, .inl (SqL.of hd3), _, rfl, D, _, rfl, .inl (SqL.of hd3), _, _, rfl, rfl, .inr ⟨by omega, by omega⟩, ?_⟩
    rw [hlW]
    have h16 : W.length * W.length ≤ 16 := by
      have := Nat.mul_le_mul h4W h4W
      omega
    refine ⟨((W.length * W.length : Nat) : Int), congrArg V.int (Int.natCast_mul W.length W.length).symm, ⟨by decide, by decide, by omega, by omega, by omega⟩, fun q hq => ?_⟩
    have eq_ := Same.new (o := .lst (rgV 0 (((W.length * W.length : Nat)) : Int))) hq
    have hq2 : (upd H3 q (.lst (rgV 0 (((W.length * W.length : Nat)) : Int)))) q = some (.lst ((stZ (List.range (W.length * W.length))).map V.int)) := by
      rw [upd_same, rg0, natsV_ints]
    generalize (upd H3 q (.lst (rgV 0 (((W.length * W.length : Nat)) : Int)))) = H4 at eq_ hq2 ⊢
    have hE4 : Each H4 isLT refs' ((MK.mrows W).map rz) := hE3.imp fun c r q => .inl (eq_ _ _ q)
    refine fun x dx nx ndx nex => mk_rule (G := L0) (S := q) (refs := refs') (.inl (SqL.of (eq_ _ _ hL))) hE4 (.inl (SqL.of hq2)) g.good nx ndx nex fun H5 s5 r5 => ?_
    have r5 : RuleZ K C H5 x (MK.mrows W) (List.range (W.length * W.length)) (W.length : Int) := r5
    obtain ⟨d5, R5, S5, refs5, hpo5, _⟩ := id r5
    refine ⟨rfl, x, d5, _, rfl, hpo5, rf_no _ _ _ (by decide) (by decide) (by decide), x, _, _, _, rfl, r5, g, fun y H6 s6 r6 => kk y H6 (((((s1.trans s2).trans s3).trans eq_).trans s5).trans s6) r6⟩
end
end PA

set_option maxHeartbeats 8000000
namespace PA
open PySem L2 RZ
open C8 (pss_cut tCut)
abbrev sCalls : Stmt := top 52
theorem sm4 {z : Int} (h1 : 1 ≤ z) (h2 : z ≤ 1000) : Sm 9000 z := by
  refine sm9000 (n := 10) ?_ (by decide)
  have e : (2 : Nat) ^ 10 = 1024 := by decide
  show z.natAbs < 2 ^ 10
  rw [e]
  omega
theorem Keep.new {a l : Addr} {H H' : Hp} {p : Addr} {o : HO} (k : Keep a l H H') (hp : H' p = none) : Keep a l H (upd H' p o) := k.trans (Keep.of (new_ hp))
theorem keep_upd {a l D : Addr} {H H' : Hp} {o : HO} (k : Keep a l H H') (hD : H D = Option.none) : Keep a l H (upd H' D o) := fun c u ca cl e => by
  rw [upd_ne (ne_of_none e hD)]
  exact k c u ca cl e
def spCalls : Sp := fun vs H Q _ => ∃ (a l : Addr) (n : Nat) (cases_ most : Int), vs = [.ref a, .int cases_, .int most] ∧ StreamAt H a l n ∧ n ≤ 40000 ∧ 1 ≤ cases_ ∧ cases_ ≤ 48 ∧ 1 ≤ most ∧ most ≤ 400 ∧
  ∀ (L : Addr) (zs : List Int) (n' : Nat) (H' : Hp), H' L = some (.lst (zs.map V.int)) → H L = none → L ≠ a → L ≠ l → (zs.length : Int) ≤ most → (∀ z ∈ zs, 0 ≤ z ∧ z < cases_) → StreamAt H' a l n' → n' ≤ n + 1 + 2 * most.toNat → Keep a l H H' → Q (.ref L) H'
section
variable {P : Program} {w : World} {K : PySem.W.Frag} {mg : Str → Option Value} {base : Heap} {C : Addr}
theorem scCalls : FnScope ["_law_stream", "_law_cases", "_law_most", "_law_found", "_law_k"] ["_law_stream", "_law_cases", "_law_most"] (defScope sCalls) := ⟨rfl, rfl, rfl, by decide +kernel, rfl, by decide +kernel, by decide +kernel⟩
theorem atI_last {xs : List V} {x : V} : atI (xs ++ [x]) (-1) = some x := by
  unfold atI ixN
  rw [List.length_append]
  simp only [List.length_singleton]
  rw [if_neg (by decide), if_pos (by omega)]
  rw [Option.bind_some, show ((-1 : Int) + ((xs.length + 1 : Nat) : Int)).toNat = xs.length by omega, List.getElem?_append_right (Nat.le_refl _), Nat.sub_self]
  rfl
theorem snoc_of {α : Type} {xs : List α} (h : xs ≠ []) : ∃ ys y, xs = ys ++ [y] := ⟨xs.dropLast, xs.getLast h, (List.dropLast_concat_getLast h).symm⟩
theorem ok_calls {f g : Addr} {fd gd : FuncData} (F : Fun K "_law_m_calls" "_law_m_calls" sCalls f fd) (T : Txt K mg C) (D : Df K mg "_law_draw" sDraw g gd ["_law_stream", "_law_many"]) : FnOk P w K mg base CX0 2 f fd ["_law_stream", "_law_cases", "_law_most"] spCalls := by
  have G : FnOk P w K mg base CX0 1 g gd ["_law_stream", "_law_many"] spDraw := ok_draw D.F T
  refine F.ok scCalls (fun vs H Q E h => ?_) (fun cdv A outer s H vs Q E hr h => ?_)
  · obtain ⟨a, l, _, _, _, rfl, _⟩ := h
    rfl
  · obtain ⟨a, l, n, cs, most, rfl, S0, hn, c1, c48, h1, h400, kk⟩ := h
    refine ⟨_, pss_cons (ps_set (i := 3) scCalls.nd rfl (Or.inl rfl) (pe_lst pa_nil))
      (pss_cons (ps_for PassesOwn.never rfl (pi_range1 (by rfl) T.range_ (pa_cons (pe_call G hr rfl D.M D.F.kp D.B .nil pass0 (pa_cons (pv 0) (pa_cons (pe_op op_add (pv 2) pe_int) pa_nil))) pa_nil)) (pg_name (i := 4) scCalls.nd rfl (Or.inl rfl))
        (pss_one (ps_if (PW.pt (pw_and (pt_cmpR (op_neD hr.units) (pv 3) (pe_lst pa_nil) (nomark _)) (pw_and1 (pt_cmpR op_eq (pe_call G hr rfl D.M D.F.kp D.B .nil pass0 (pa_cons (pv 0) (pa_cons pe_int pa_nil))) pe_int (nomark _)))))
          (pss_one (ps_expr (pe_bm PySem.F.plainAttrs_list PySem.F.slot_list_append PySem.F.type_list_append mt_append (pv 3) (pa_cons (pe_ix ix_list (pv 3) (pe_un un_neg pe_int) (fun _ _ => rfl)) pa_nil))))
          (pss_one (ps_expr (pe_bm PySem.F.plainAttrs_list PySem.F.slot_list_append PySem.F.type_list_append mt_append (pv 3) (pa_cons (pe_call G hr rfl D.M D.F.kp D.B .nil pass0 (pa_cons (pv 0) (pa_cons (pv 1) pa_nil))) pa_nil)))))))
      (pss_one (ps_ret (pv 3)))), ?_⟩
    refine ⟨Nat.zero_le _, fun L hL => ?_⟩
    obtain ⟨La, Ll⟩ := S0.ne hL
    have sL := new_ (o := .lst []) hL
    refine ⟨_, rfl, _, rfl, _, _, rfl, rfl, a, l, n, _, rfl, S0.same sL, by omega, by omega, sm4 (by omega) (by omega), fun r H1 r0 r1 S1 k1 => ⟨r, rfl, by omega, by omega, ?_⟩⟩
    have hL1 := k1 _ _ La Ll upd_same
    refine for_range (n := r.toNat) (fun i σ' H' => ∃ x4 n' zs, σ' = [some (V.ref a), some (V.int cs), some (V.int most), some (V.ref L), x4] ∧ n' ≤ n + 1 + 2 * i ∧ StreamAt H' a l n' ∧ Keep a l H H' ∧ H' L = some (.lst ((zs : List Int).map V.int)) ∧ zs.length = i ∧ ∀ z ∈ zs, 0 ≤ z ∧ z < cs) ?_ ?_ ?_
    · exact ⟨none, n + 1, [], rfl, by omega, S1, (Keep.of sL).trans k1, hL1, rfl, fun z hz => (List.not_mem_nil hz).elim⟩
    · rintro i _ H2 hi ⟨x4, n', zs, rfl, hn', S2, k2, h2, hz, hzb⟩
      have hsz : ∀ {m : Nat}, m < 1000 → m < sizeLine := fun h => Nat.lt_of_lt_of_le h (by decide)
      have hzl : (zs.map V.int).length < sizeLine := by rw [List.length_map]; exact hsz (by omega)
      refine ⟨_, rfl, Nat.zero_le _, fun q hq => ?_⟩
      have sq := new_ (o := .lst []) hq
      have hq2 := sq _ _ h2
      refine ⟨.list (zs.map PyData.int), .list [], .lst (SqL.of hq2) (dp_ints zs), .lst (SqL.of upd_same) .nil, ints_shaped zs, ints_shaped [], _, rfl, ?_⟩
      rw [ints_nil]
      have fin : ∀ (x : Int), 0 ≤ x → x < cs → ∀ (n3 : Nat) (H3 : Hp), StreamAt H3 a l n3 → n3 ≤ n + 1 + 2 * (i + 1) → Keep a l H H3 → H3 L = some (.lst (zs.map V.int)) →
          ∃ x4 n' zs', [some (V.ref a), some (V.int cs), some (V.int most), some (V.ref L), some (V.int (0 + (i : Int)))] = [some (V.ref a), some (V.int cs), some (V.int most), some (V.ref L), x4] ∧ n' ≤ n + 1 + 2 * (i + 1) ∧ StreamAt (upd H3 L (.lst (zs.map V.int ++ [.int x]))) a l n' ∧ Keep a l H (upd H3 L (.lst (zs.map V.int ++ [.int x]))) ∧ (upd H3 L (.lst (zs.map V.int ++ [.int x]))) L = some (.lst ((zs' : List Int).map V.int)) ∧ zs'.length = i + 1 ∧ ∀ z ∈ zs', 0 ≤ z ∧ z < cs :=
        fun x x0 x1 n3 H3 S3 h3 k3 e3 => ⟨_, n3, zs ++ [x], rfl, h3, S3.lst e3 La Ll, keep_upd k3 hL, by rw [upd_same, List.map_append]; rfl, by rw [List.length_append, hz]; rfl, fun z hm => by
          rcases List.mem_append.mp hm with hm | hm
          · exact hzb z hm
          · rw [List.mem_singleton.mp hm]; exact ⟨x0, x1⟩⟩
      by_cases hzs : zs = []
      · have e : zs.isEmpty = true := by rw [hzs]; rfl
        rw [e]
        refine iteF ?_
        refine ⟨_, rfl, .inl ⟨rfl, _, SqL.of hq2⟩, ?_⟩
        refine ⟨_, rfl, _, rfl, a, l, n', cs, rfl, S2.same sq, by omega, by omega, sm4 (by omega) (by omega), fun r2 H3 r20 r21 S3 k3 => ⟨L, _, _, rfl, rfl, k3 _ _ La Ll hq2, hzl, ?_⟩⟩
        exact fin r2 r20 r21 _ H3 S3 (by omega) ((k2.new hq).trans k3) (k3 _ _ La Ll hq2)
      · have ne : zs ≠ [] := hzs
        have e : zs.isEmpty = false := by
          cases zs with
          | nil => exact absurd rfl ne
          | cons _ _ => rfl
        rw [e]
        refine iteT ?_
        refine ⟨_, rfl, a, l, n', 3, rfl, S2.same sq, by omega, by decide, sm4 (by decide) (by decide), fun r2 H3 r20 r21 S3 k3 => ⟨rfl, _, rfl, ?_⟩⟩
        have h3 := k3 _ _ La Ll hq2
        have kq := (k2.new (o := .lst []) hq).trans k3
        obtain ⟨ys, y, hy⟩ := snoc_of ne
        refine ifD_2 (fun _ => ?_) (fun _ => ?_)
        · refine ⟨_, rfl, .inl ⟨rfl, _, SqL.of h3⟩, ?_⟩
          refine ⟨_, rfl, _, rfl, L, _, (-1 : Int), .int y, rfl, rfl, SqL.of h3, by rw [hy, List.map_append]; exact atI_last, L, _, _, rfl, rfl, h3, hzl, ?_⟩
          have yb := hzb y (by rw [hy]; simp)
          exact fin y yb.1 yb.2 _ H3 S3 (by omega) kq h3
        · refine ⟨_, rfl, .inl ⟨rfl, _, SqL.of h3⟩, ?_⟩
          refine ⟨_, rfl, _, rfl, a, l, _, cs, rfl, S3, by omega, by omega, sm4 (by omega) (by omega), fun r4 H4 r40 r41 S4 k4 => ⟨L, _, _, rfl, rfl, k4 _ _ La Ll h3, hzl, ?_⟩⟩
          exact fin r4 r40 r41 _ H4 S4 (by omega) (kq.trans k4) (k4 _ _ La Ll h3)
    · rintro _ H2 ⟨x4, n', zs, rfl, hn', S2, k2, h2, hz, hzb⟩
      refine ⟨_, rfl, kk L zs n' H2 h2 hL La Ll (by omega) hzb S2 (by omega) k2⟩
end
end PA

set_option maxHeartbeats 4000000
namespace PA
open PySem L2 RZ
open C8 (pss_cut tCut)
/-- a tuple of the cells, or a list that is none of N -/
def TLx (N : List Addr) (H : Hp) (c : Addr) (r : List V) : Prop := H c = some (.tup r) ∨ (c ∉ N ∧ H c = some (.lst r))
section
variable {N : List Addr} {H H' : Hp} {c a l D : Addr} {r : List V} {n m : Nat}
theorem TLx.same (q : TLx N H c r) (s : Same H H') : TLx N H' c r := q.imp (fun q => s _ _ q) fun q => ⟨q.1, s _ _ q.2⟩
theorem TLx.keep (q : TLx N H c r) (S : StreamAt H a l n) (ha : a ∈ N) (hl : l ∈ N) (k : Keep a l H H') : TLx N H' c r := by
  obtain ⟨ne, ns, x, z, h1, h2, _⟩ := S
  rcases q with q | ⟨nn, q⟩
  · exact .inl (k _ _ (ne_of (H := H) q h1 (by intro z; cases z)) (ne_of (H := H) q h2 (by intro z; cases z)) q)
  · exact .inr ⟨nn, k _ _ (fun e => nn (e ▸ ha)) (fun e => nn (e ▸ hl)) q⟩
theorem TLx.lst {xs ys : List V} (q : TLx N H c r) (hD : D ∈ N) (hd : H D = some (.lst xs)) : TLx N (upd H D (.lst ys)) c r := by
  rcases q with q | ⟨nn, q⟩
  · exact .inl (by rw [upd_ne (ne_of (H := H) q hd (by intro z; cases z))]; exact q)
  · exact .inr ⟨nn, by rw [upd_ne (show c ≠ D from fun e => nn (by rw [e]; exact hD))]; exact q⟩
theorem TLx.sub {N' : List Addr} (q : TLx N H c r) (h : ∀ x, x ∈ N' → x ∈ N) : TLx N' H c r := q.imp id fun q => ⟨fun z => q.1 (h _ z), q.2⟩
end
abbrev sHanded : Stmt := top 47
def rLstK (K : PySem.W.Frag) : List V → Hp → (V → Hp → Prop) → Prop := fun xs H Q => ∃ p ys, xs = [.ref p] ∧ (SqL K H p ys ∨ SqT K H p ys) ∧ ∀ l, H l = none → Q (.ref l) (upd H l (.lst ys))
theorem call_listK {X : Cx} {K : PySem.W.Frag} (h : X.K = K) : CallR X (.type "list") (rLstK K) := h ▸ call_list_of
def spHanded : Sp := fun vs H Q _ => ∃ (a l R : Addr) (n : Nat) (refs : List V) (rows : List (List V)), vs = [.ref a, .ref R] ∧ StreamAt H a l n ∧ n ≤ 5000 ∧ H R = some (.lst refs) ∧ R ≠ a ∧ R ≠ l ∧ Ea H (TLx [a, l]) refs rows ∧ rows.length ≤ 60 ∧
  ∀ (G : Addr) (refs' : List V) (n' : Nat) (H' : Hp), (H' G = some (.lst refs') ∨ H' G = some (.tup refs')) → Ea H' (TLx [a, l]) refs' rows → StreamAt H' a l n' → n' ≤ n + 70 → Keep a l H H' → Q (.ref G) H'
section
variable {P : Program} {w : World} {K : PySem.W.Frag} {mg : Str → Option Value} {base : Heap} {C : Addr}
theorem scHanded : FnScope ["_law_stream", "_law_rows", "_law_some", "_law_row"] ["_law_stream", "_law_rows"] (defScope sHanded) := ⟨rfl, rfl, rfl, by decide +kernel, rfl, by decide +kernel, by decide +kernel⟩
theorem ok_handed {f g : Addr} {fd gd : FuncData} (F : Fun K "_law_m_handed" "_law_m_handed" sHanded f fd) (T : Txt K mg C) (D : Df K mg "_law_draw" sDraw g gd ["_law_stream", "_law_many"]) : FnOk P w K mg base CX0 2 f fd ["_law_stream", "_law_rows"] spHanded := by
  have G : FnOk P w K mg base CX0 1 g gd ["_law_stream", "_law_many"] spDraw := ok_draw D.F T
  refine F.ok scHanded (fun vs H Q E h => ?_) (fun cdv A outer s H vs Q E hr h => ?_)
  · obtain ⟨a, l, R, _, _, _, rfl, _⟩ := h
    rfl
  · obtain ⟨a, l, R, n, refs, rows, rfl, S0, hn, hR, Ra, Rl, hE, h60, kk⟩ := h
    have e24 := @sm48
    have hlr : refs.length = rows.length := hE.1
    refine ⟨_, pss_cons (ps_setLc (i := 2) (own := [("_law_row", 3)]) (g := gName 3) (tt := tYes) (by rfl) scHanded.nd rfl rfl (sw_true rfl rfl rfl (by decide +kernel)) (pi_list (pv 1)) (blkOk_by (N := ["_law_stream", "_law_rows", "_law_some", "_law_row"]) (sc := defScope sHanded) (by decide +kernel))
          (fun _ _ _ _ _ => pg_name (i := 3) scHanded.nd rfl (Or.inl rfl)) (fun _ _ _ _ _ => pts_nil)
          (fun _ _ _ _ _ => pe_ifExp (pt_cmpR op_eq (pe_call G hr rfl D.M D.F.kp D.B .nil pass0 (pa_cons (pv 0) (pa_cons pe_int pa_nil))) pe_int (nomark _)) (pe_callTy (call_listK (K := K) rfl) (by rfl) T.list_ boot_list' (pa_cons (pv 3) pa_nil)) (pe_callTy (call_tupleK (K := K) rfl) (by rfl) T.tup_ boot_tuple' (pa_cons (pv 3) pa_nil))))
      (pss_one (ps_ret (pe_ifExp (pt_cmpR op_eq (pe_call G hr rfl D.M D.F.kp D.B .nil pass0 (pa_cons (pv 0) (pa_cons pe_int pa_nil))) pe_int (nomark _)) (pv 2) (pe_callTy call_tuple_of (by rfl) T.tup_ boot_tuple' (pa_cons (pv 2) pa_nil))))), ?_⟩
    refine ⟨_, rfl, R, rfl, ⟨_, SqL.of hR⟩, fun Dd hD => ?_⟩
    obtain ⟨Da, Dl⟩ := S0.ne hD
    refine lc_list (K := K) (a := R) (xs := refs) (fun i H' => StreamAt H' a l (n + i) ∧ Keep a l H H' ∧ ∃ acc, H' Dd = some (.lst acc) ∧ Ea H' (TLx [a, l, Dd]) acc (rows.take i)) ?_ ?_ ?_ ?_
    · exact ⟨S0.same (new_ hD), Keep.of (new_ hD), [], upd_same, by rw [List.take_zero]; exact Ea.nil⟩
    · exact fun i H' _ q => SqL.of (q.2.1 _ _ Ra Rl hR)
    · rintro i x H1 hx ⟨S1, kp1, acc, hd, he⟩
      obtain ⟨c, r, rfl, hr', hc⟩ := hE.at_ hx
      have hi : i < rows.length := (List.getElem?_eq_some_iff.mp hr').1
      have hal : acc.length < sizeLine := by
        rw [he.1, List.length_take]
        exact Nat.lt_of_le_of_lt (Nat.le_trans (Nat.min_le_left _ _) (Nat.le_of_lt hi)) (Nat.lt_of_le_of_lt h60 (by decide))
      refine ⟨rfl, ?_⟩
      dsimp only [tYes]
      rw [if_pos rfl]
      refine ⟨_, rfl, a, l, _, _, rfl, S1, by omega, by decide, e24 (by decide) (by decide), fun d H2 d0 d1 S2 kp2 => ⟨rfl, _, rfl, ?_⟩⟩
      have hd2 := kp2 _ _ Da Dl hd
      have hc2 : TLx [a, l] H2 c r := (hc.keep S0 (by simp) (by simp) kp1).keep S1 (by simp) (by simp) kp2
      have he2 : Ea H2 (TLx [a, l, Dd]) acc (rows.take i) := he.imp fun c' r' q => q.keep S1 (by simp) (by simp) kp2
      have fin : ∀ q H3, Same H2 H3 → TLx [a, l, Dd] H3 q r → ∃ acc', H3 Dd = some (.lst acc') ∧ acc'.length < sizeLine ∧
          (StreamAt (upd H3 Dd (.lst (acc' ++ [.ref q]))) a l (n + (i + 1)) ∧ Keep a l H (upd H3 Dd (.lst (acc' ++ [.ref q]))) ∧ ∃ acc2, (upd H3 Dd (.lst (acc' ++ [.ref q]))) Dd = some (.lst acc2) ∧ Ea (upd H3 Dd (.lst (acc' ++ [.ref q]))) (TLx [a, l, Dd]) acc2 (rows.take (i + 1))) := by
        intro q H3 s3 hq
        have hd3 := s3 _ _ hd2
        refine ⟨acc, hd3, hal, (S2.same s3).lst hd3 Da Dl, ?_, acc ++ [.ref q], upd_same, ?_⟩
        · intro c' o ca cl e
          rw [upd_ne (ne_of_none e hD)]
          exact s3 _ _ (kp2 _ _ ca cl (kp1 _ _ ca cl e))
        · rw [take_succ' hr']
          exact Ea.push (he2.imp fun c' r' z => (z.same s3).lst (by simp) hd3) (hq.lst (by simp) hd3)
      have new3 : ∀ p, H2 p = none → p ∉ [a, l, Dd] := by
        intro p hp
        obtain ⟨pa, pl⟩ := S2.ne hp
        have pD : p ≠ Dd := (ne_of_none hd2 hp).symm
        simp [pa, pl, pD]
      refine ifD_2 (fun _ => ?_) (fun _ => ?_)
      · rcases hc2 with hc2 | ⟨nc, hc2⟩
        · exact ⟨_, rfl, c, _, rfl, .inr (SqT.of hc2), fun p hp => fin p _ (new_ hp) (.inr ⟨new3 p hp, upd_same⟩)⟩
        · exact ⟨_, rfl, c, _, rfl, .inl (SqL.of hc2), fun p hp => fin p _ (new_ hp) (.inr ⟨new3 p hp, upd_same⟩)⟩
      · rcases hc2 with hc2 | ⟨nc, hc2⟩
        · exact ⟨_, rfl, c, _, rfl, .inr ⟨SqT.of hc2, fin c _ (fun _ _ e => e) (.inl hc2)⟩⟩
        · exact ⟨_, rfl, c, _, rfl, .inl ⟨SqL.of hc2, fun p hp => fin p _ (new_ hp) (.inl upd_same)⟩⟩
    · rintro H1 ⟨S1, kp1, acc, hd, he⟩
      rw [hlr] at S1
      rw [hlr, List.take_length] at he
      refine ⟨_, rfl, a, l, _, _, rfl, S1, by omega, by decide, e24 (by decide) (by decide), fun r H2 r0 r1 S2 kp2 => ⟨rfl, _, rfl, ?_⟩⟩
      have hd2 := kp2 _ _ Da Dl hd
      have he2 : Ea H2 (TLx [a, l]) acc rows := he.imp fun c' r' q => (q.keep S1 (by simp) (by simp) kp2).sub (by intro x hx; simp only [List.mem_cons, List.not_mem_nil, or_false] at hx ⊢; rcases hx with h | h <;> simp [h])
      refine ifD_2 (fun _ => ?_) (fun _ => ?_)
      · exact ⟨_, rfl, kk Dd acc _ H2 (.inl hd2) he2 S2 (by omega) (kp1.trans kp2)⟩
      · refine ⟨_, rfl, Dd, _, rfl, .inl ⟨SqL.of hd2, fun p hp => ?_⟩⟩
        exact kk p acc _ _ (.inr upd_same) (he2.imp fun c' r' q => q.same (new_ hp)) (S2.same (new_ hp)) (by omega) ((kp1.trans kp2).trans (Keep.of (new_ hp)))
end
end PA

set_option maxHeartbeats 8000000
namespace PA
open PySem L2 RZ
open C8 (pss_cut tCut)
abbrev sRefused : Stmt := top 55
abbrev EW (W : WX) : XK := fun cls d H => ∀ σ, W cls d σ H
theorem ea_ex {α : Type} {H : Hp} {P : Hp → Addr → α → Prop} {Z : α → Prop} : ∀ {refs : List V}, (∀ x ∈ refs, ∃ c r, x = .ref c ∧ P H c r ∧ Z r) → ∃ rows, Ea H P refs rows ∧ ∀ r ∈ rows, Z r
  | [], _ => ⟨[], Ea.nil, fun r hr => by cases hr⟩
  | x :: xs, h => by
    obtain ⟨c, r, rfl, p, z⟩ := h x (List.mem_cons_self ..)
    obtain ⟨rows, e, zs⟩ := ea_ex fun y hy => h y (List.mem_cons_of_mem _ hy)
    exact ⟨r :: rows, (Ea.one p).append e, fun q hq => by
      rcases List.mem_cons.mp hq with rfl | hq
      · exact z
      · exact zs q hq⟩
/-- a list of its own -/
def isNl (H0 : Hp) (D : Addr) (H : Hp) (c : Addr) (r : Nat × Nat) : Prop := H0 c = none ∧ c ≠ D ∧ H c = some (.lst [.int (r.1 : Int), .str (wordS r.2)])
def BadAt (K : PySem.W.Frag) (H : Hp) (B : Addr) : Prop := ∃ refs rows, H B = some (.lst refs) ∧ Ea H (isSr K) refs rows ∧ rows.length ≤ 10 ∧ (∀ r ∈ rows, Cell r.1 ∧ Cell r.2) ∧ mBad rows
def spRefused (K : PySem.W.Frag) : Sp := fun vs H Q _ => ∃ (a l R : Addr) (n : Nat) (refs : List V) (W : MK.Wt), vs = [.ref a, .ref R] ∧ StreamAt H a l n ∧ n ≤ 5000 ∧ H R = some (.lst refs) ∧ R ≠ a ∧ R ≠ l ∧ Ea H isWr refs W ∧ MK.WOk W ∧
  ∀ n' H', StreamAt H' a l n' → n' ≤ n + 3 → Keep a l H H' → Q (.bl true) H'
/-- a cell of a row is changed to a bad one -/
theorem bad_set {K : PySem.W.Frag} {H0 H4 : Hp} {B c : Addr} {refs : List V} {W : MK.Wt} {i : Nat} (o : MK.WOk W) (hi : refs[i]? = some (.ref c)) (hB : H4 B = some (.lst refs)) (hE : Ea H4 (isNl H0 B) refs W)
    {j : Nat} (hj : j < 2) {v : V} (cv : Cell v) (bad : ∀ x y : V, j = 0 ∧ below W.length v = false ∨ j = 1 ∧ inV v movesV = false) {xs : List V} (hc : H4 c = some (.lst xs)) : BadAt K (upd H4 c (.lst (xs.set j v))) B := by
  obtain ⟨c', r, ec, hr, z0, zD, z⟩ := hE.at_ hi
  cases ec
  rw [z] at hc
  cases hc
  have hB5 : (upd H4 c (.lst ([V.int (r.1 : Int), V.str (wordS r.2)].set j v))) B = some (.lst refs) := by rw [upd_ne (fun e => zD e.symm)]; exact hB
  have hl : refs.length = W.length := hE.1
  obtain ⟨rows, e, zs⟩ := ea_ex (H := upd H4 c (.lst ([V.int (r.1 : Int), V.str (wordS r.2)].set j v))) (P := isSr K) (Z := fun r => Cell r.1 ∧ Cell r.2) (refs := refs) (fun x hx => by
    obtain ⟨k, hk⟩ := List.getElem?_of_mem hx
    obtain ⟨d, s, rfl, hs, y0, yD, y⟩ := hE.at_ hk
    by_cases ed : d = c
    · subst ed
      match j, hj with
      | 0, _ => exact ⟨d, (v, V.str (wordS r.2)), rfl, .inl upd_same, cv, .str _⟩
      | 1, _ => exact ⟨d, (V.int (r.1 : Int), v), rfl, .inl upd_same, .int _, cv⟩
    · exact ⟨d, encW s, rfl, .inl (by rw [upd_ne ed]; exact y), .int _, .str _⟩)
  have hlr : rows.length = W.length := e.1.symm.trans hl
  obtain ⟨d, q, ed, hq, q2⟩ := e.at_ hi
  cases ed
  have h4 := o.four
  refine ⟨refs, rows, hB5, e, by omega, zs, .inr (.inr (List.all_eq_false.mpr ⟨q, List.mem_of_getElem? hq, ?_⟩))⟩
  have q2 : (upd H4 c (.lst ([V.int (r.1 : Int), V.str (wordS r.2)].set j v))) c = some (.lst [q.1, q.2]) := by
    rcases q2 with q2 | q2
    · exact q2
    · rw [upd_same] at q2; cases q2
  rw [upd_same] at q2
  rw [hlr]
  rcases bad .non .non with ⟨rfl, b⟩ | ⟨rfl, b⟩
  · have : q.1 = v := by injection q2 with q2; injection q2 with q2; injection q2 with q2 _; exact q2.symm
    show ¬ (below W.length q.1 && _) = true
    rw [this, b]
    simp
  · have : q.2 = v := by injection q2 with q2; injection q2 with q2; injection q2 with _ q2; injection q2 with q2 _; exact q2.symm
    show ¬ (_ && inV q.2 movesV) = true
    rw [this, b, Bool.and_false]
    simp
section
variable {P : Program} {w : World} {K : PySem.W.Frag} {mg : Str → Option Value} {base : Heap} {C X fI dd g1 g2 g3 g4 fLe m1 m2 m3 f1 f2 f3 f4 f5 f6 f7 : Addr} {dI gd1 gd2 gd3 gd4 dLe e1 e2 e3 d1 d2 d3 d4 d5 d6 d7 : FuncData}
abbrev NRefused : List Str := ["_law_stream", "_law_words", "_law_bad", "_law_kind", "_law_at", "_law_row"]
theorem scRefused : FnScope NRefused ["_law_stream", "_law_words"] (defScope sRefused) := ⟨rfl, rfl, rfl, by decide +kernel, rfl, by decide +kernel, by decide +kernel⟩
theorem ok_refused {f fM fD fP : Addr} {fd dM dD dP : FuncData} (F : Fun K "_law_refused" "_law_refused" sRefused f fd) (L : LibM K mg C X fI dd g1 g2 g3 g4 fLe m1 m2 m3 f1 f2 f3 f4 f5 f6 f7 dI gd1 gd2 gd3 gd4 dLe e1 e2 e3 d1 d2 d3 d4 d5 d6 d7)
    (DM : Df K mg "marked" sMarked fM dM ["rows"]) (D : Df K mg "_law_draw" sDraw fD dD ["_law_stream", "_law_many"]) (D2 : Df K mg "_law_pick" sPick fP dP ["_law_stream", "_law_some"]) : FnOk P w K mg base CX0 9 f fd ["_law_stream", "_law_words"] (spRefused K) := by
  have T := L.T
  have TX := L.TX
  have GM : FnOk P w K mg base (L2.CX P w) 8 fM dM ["rows"] (spMarked K C X) := ok_marked DM.F L
  have G : FnOk P w K mg base CX0 1 fD dD ["_law_stream", "_law_many"] spDraw := ok_draw D.F T
  have G2 : FnOk P w K mg base CX0 2 fP dP ["_law_stream", "_law_some"] spPick := ok_pick D2.F T D
  refine F.ok scRefused (fun vs H Q E h => ?_) (fun cdv A outer s H vs Q E hr h => ?_)
  · obtain ⟨a, l, R, _, _, _, rfl, _⟩ := h
    rfl
  · obtain ⟨a, l, R, n, refs, W, rfl, S0, hn, hR, Ra, Rl, hE, o, kk⟩ := h
    have e24 := @sm48
    have hr1 : Room 1 _ := hr.mono (by decide)
    have hr2 : Room 2 _ := hr.mono (by decide)
    have hr8 : Room 8 _ := hr.mono (by decide)
    refine ⟨_, pss_cut (ps_par (i := 2) (j := 3) (by rfl) scRefused.nd rfl rfl (by decide) rfl rfl (pa_cons (pe_lc (own := [("_law_row", 5)]) (g := gName 5) (tt := tYes) (by rfl) scRefused.nd (pi_list (pv 1)) (blkOk_by (N := NRefused) (sc := defScope sRefused) (by decide +kernel))
          (fun _ _ _ _ _ => pg_name (i := 5) scRefused.nd rfl (Or.inl rfl)) (fun _ _ _ _ _ => pts_nil)
          (fun _ _ _ _ _ => pe_callTy (call_listK (K := K) rfl) (by rfl) T.list_ boot_list' (pa_cons (pv 5) pa_nil)))
        (pa_cons (pe_call G hr1 rfl D.M D.F.kp D.B .nil pass0 (pa_cons (pv 0) (pa_cons pe_int pa_nil))) pa_nil)) (by rfl))
      (pss_cons (ps_set (i := 4) scRefused.nd rfl (Or.inl rfl) (pe_call G hr1 rfl D.M D.F.kp D.B .nil pass0 (pa_cons (pv 0) (pa_cons (pe_callB call_len_seq (by rfl) T.len_ PySem.boot_len (pa_cons (pv 2) pa_nil)) pa_nil))))
      (pss_cut (ps_if (pt_cmpR op_eq (pv 3) pe_int (nomark _)) (pss_one (ps_set (i := 2) scRefused.nd rfl (Or.inl rfl) (pe_lst pa_nil))) pss_nil)
      (pss_cut (ps_if (pt_cmpR op_eq (pv 3) pe_int (nomark _)) (pss_one (ps_set (i := 2) scRefused.nd rfl (Or.inl rfl) (pe_op op_rep (pe_lst (pa_cons (pe_tup (pa_cons pe_int (pa_cons pe_str pa_nil))) pa_nil)) pe_int))) pss_nil)
      (pss_cut (ps_if (pt_cmpR op_eq (pv 3) pe_int (nomark _)) (pss_one (ps_asg (pe_call G2 hr2 rfl D2.M D2.F.kp D2.B .nil pass0 (pa_cons (pv 0) (pa_cons (pe_lst (pa_cons (pe_callB call_len_seq (by rfl) T.len_ PySem.boot_len (pa_cons (pv 2) pa_nil)) (pa_cons (pe_un un_neg pe_int) (pa_cons pe_bl (pa_cons pe_non (pa_cons pe_str pa_nil)))))) pa_nil))) (pg_sub (pe_ix ix_list (pv 2) (pv 4) (fun _ _ => rfl)) pe_int set_list))) pss_nil)
      (pss_cut (ps_if (pt_cmpR op_gt (pv 3) pe_int (nomark _)) (pss_one (ps_asg (pe_call G2 hr2 rfl D2.M D2.F.kp D2.B .nil pass0 (pa_cons (pv 0) (pa_cons (pe_lst (pa_cons pe_str (pa_cons pe_str (pa_cons pe_str (pa_cons pe_non (pa_cons pe_int (pa_cons pe_str pa_nil))))))) pa_nil))) (pg_sub (pe_ix ix_list (pv 2) (pv 4) (fun _ _ => rfl)) pe_int set_list))) pss_nil)
      (pss_cons (ps_try_only (tb := fun W => tDrop (tCall (spMarked K C X) [] (EW W) (tCons (tVar 2) tNil))) (ts := fun _ _ _ => tRet (tC (.bl true))) (Wout := fun _ _ _ _ => False) rfl rfl ⟨by rfl, by decide, .inl TX.g⟩ takes0
        (fun W pn xe tk _ => pss_one (ps_expr (by exact (pe_call (E := EW W) GM hr8 (by rfl) DM.M DM.F.kp DM.B .nil (passes_call tk (fun _ _ σ _ z => z σ)) (pa_cons (pv 2) pa_nil)))))
        (fun a oe cls d pn hz hf => pss_one (ps_ret pe_bl)))
      (pss_one (ps_ret pe_bl)))))))), ?_⟩
    have hlr : refs.length = W.length := hE.1
    have h4 := o.four
    have h1 := o.one
    -- the copies and the kind
    refine ⟨fun σ' H' => ∃ B refs' kd, σ' = [some (.ref a), some (.ref R), some (.ref B), some (.int kd), none, none] ∧ 0 ≤ kd ∧ kd < 5 ∧ StreamAt H' a l (n + 1) ∧ Keep a l H H' ∧ H B = none ∧ H' B = some (.lst refs') ∧ Ea H' (isNl H B) refs' W, ?_, ?_⟩
    · refine ⟨_, rfl, R, rfl, ⟨_, SqL.of hR⟩, fun Dd hD => ?_⟩
      refine lc_acc (xs := refs) (walk_l (K := K) (a := R) (xs := refs)) (by rw [hlr]; exact Nat.le_trans h4 (by decide)) hD (fun H' s' => SqL.of (s' _ _ hR)) (fun i acc H' => Ea H' (isNl H Dd) acc (W.take i)) (fun i acc H' e => by rw [e.1, List.length_take]; omega) (by rw [List.take_zero]; exact Ea.nil) (fun i x H' acc Φ Ψ hi hx sm hd he kf => ?_) fun H1 acc s1 hd he => ?_
      · obtain ⟨c, r, rfl, hl, hc⟩ := hE.at_ hx
        refine ⟨rfl, ?_⟩
        dsimp only [tYes]
        rw [if_pos rfl]
        refine ⟨_, rfl, c, _, rfl, .inr (SqT.of (sm _ _ hc)), fun p hp => ?_⟩
        have sq := new_ (o := .lst [V.int (r.1 : Int), V.str (wordS r.2)]) hp
        have pD := ne_of_none hd hp
        refine kf _ _ sq (sq _ _ hd) fun H5 h5 b1 b2 => ?_
        rw [take_succ' hl]
        refine Ea.push (he.imp fun c' r' z => ⟨z.1, z.2.1, b1 _ _ z.2.1 (sq _ _ z.2.2)⟩) ⟨L2.Same.none sm hp, pD.symm, b1 _ _ pD.symm upd_same⟩
      · rw [hlr, List.take_length] at he
        obtain ⟨Da, Dl⟩ := S0.ne hD
        refine ⟨_, rfl, a, l, _, _, rfl, S0.same s1, by omega, by decide, e24 (by decide) (by decide), fun r H2 r0 r1 S2 kp2 => ⟨_, _, rfl, Dd, acc, r, rfl, r0, r1, S2, (Keep.of s1).trans kp2, hD, kp2 _ _ Da Dl hd, he.imp fun c r z => ⟨z.1, z.2.1, kp2 _ _ (S0.ne z.1).1 (S0.ne z.1).2 z.2.2⟩⟩⟩
    rintro _ H1 ⟨B, refs1, kd, rfl, kd0, kd5, S1, kp1, B0, hB1, hE1⟩
    have hl1 : refs1.length = W.length := hE1.1
    refine ⟨_, rfl, _, rfl, B, _, rfl, .inl (SqL.of hB1), a, l, _, _, rfl, S1, by omega, by omega, e24 (by omega) (by omega), fun r H2 r0 r1 S2 kp2 => ?_⟩
    obtain ⟨Ba, Bl⟩ := S0.ne B0
    have hB2 := kp2 _ _ Ba Bl hB1
    have hE2 : Ea H2 (isNl H B) refs1 W := hE1.imp fun c r z => ⟨z.1, z.2.1, kp2 _ _ (S0.ne z.1).1 (S0.ne z.1).2 z.2.2⟩
    have kp02 := kp1.trans kp2
    clear hE1 hB1 kp2 kp1 S1 H1
    obtain ⟨i, rfl⟩ : ∃ i : Nat, r = (i : Int) := ⟨r.toNat, (Int.toNat_of_nonneg r0).symm⟩
    have hi : i < refs1.length := by omega
    obtain ⟨c, wr, hx, hwr, hcn⟩ := hE2.at_ (List.getElem?_eq_getElem hi)
    have hci : refs1[i]? = some (.ref c) := (List.getElem?_eq_getElem hi).trans (congrArg some hx)
    have St : ∀ (j : Int) (σ' : L2.St) (H' : Hp), Prop := fun _ _ _ => True
    clear St
    -- kind 0
    refine ⟨fun σ' H' => ∃ B' n', σ' = [some (.ref a), some (.ref R), some (.ref B'), some (.int kd), some (.int (i : Int)), none] ∧ StreamAt H' a l n' ∧ n' ≤ n + 3 ∧ Keep a l H H' ∧ ((kd < 1 ∧ BadAt K H' B') ∨ (1 ≤ kd ∧ B' = B ∧ H' = H2)), ?_, ?_⟩
    · refine ⟨_, rfl, rfl, _, rfl, ifD_2 (fun e => ?_) (fun e => ?_)⟩
      · have e' : kd = 0 := by injection e
        refine ⟨Nat.zero_le _, fun q hq => ⟨q, _, rfl, S2.same (new_ hq), by omega, kp02.trans (Keep.of (new_ hq)), .inl ⟨by omega, [], [], upd_same, Ea.nil, by decide, (fun r hr => by cases hr), .inl rfl⟩⟩⟩
      · have e' : kd ≠ 0 := fun z => e (by rw [z])
        exact ⟨B, _, rfl, S2, by omega, kp02, .inr ⟨by omega, rfl, rfl⟩⟩
    rintro _ H3 ⟨B', n', rfl, S3, hn3, kp3, hs⟩
    -- kind 1
    refine ⟨fun σ' H' => ∃ B' n', σ' = [some (.ref a), some (.ref R), some (.ref B'), some (.int kd), some (.int (i : Int)), none] ∧ StreamAt H' a l n' ∧ n' ≤ n + 3 ∧ Keep a l H H' ∧ ((kd < 2 ∧ BadAt K H' B') ∨ (2 ≤ kd ∧ B' = B ∧ H' = H2)), ?_, ?_⟩
    · refine ⟨_, rfl, rfl, _, rfl, ifD_2 (fun e => ?_) (fun e => ?_)⟩
      · have e' : kd = 1 := by injection e
        refine ⟨by show 2 ≤ sizeLine; decide, fun u hu => ⟨by show 1 ≤ sizeLine; decide, fun p hp => ?_⟩⟩
        have su := new_ (o := .tup [.int 0, .str "keep"]) hu
        have sp := new_ (o := .lst [.ref u]) hp
        refine ⟨p, _, _, rfl, rfl, upd_same, by decide, by decide, by show 1 * 5 ≤ sizeLine; decide, fun g hg => ?_⟩
        have sg := new_ (o := .lst (List.replicate 5 [V.ref u]).flatten) hg
        have s5 := su.trans (sp.trans sg)
        refine ⟨g, n', rfl, S3.same s5, hn3, kp3.trans (Keep.of s5), .inl ⟨by omega, [.ref u, .ref u, .ref u, .ref u, .ref u], [(.int 0, .str "keep"), (.int 0, .str "keep"), (.int 0, .str "keep"), (.int 0, .str "keep"), (.int 0, .str "keep")], upd_same, ⟨rfl, fun k x r hx hr => ?_⟩, by decide, fun r hr => ?_, .inr (.inl (by decide))⟩⟩
        · have h1 : x = .ref u := by
            have := List.mem_of_getElem? hx
            simpa using this
          have h2 : r = (.int 0, .str "keep") := by
            have := List.mem_of_getElem? hr
            simpa using this
          subst h1 h2
          exact ⟨u, rfl, .inr (sg _ _ (sp _ _ upd_same))⟩
        · have h2 : r = (.int 0, .str "keep") := by simpa using hr
          subst h2
          exact ⟨.int _, .str _⟩
      · have e' : kd ≠ 1 := fun z => e (by rw [z])
        refine ⟨B', n', rfl, S3, hn3, kp3, hs.imp (fun h => ⟨by omega, h.2⟩) fun h => ⟨by omega, h.2⟩⟩
    clear hs kp3 hn3 S3
    rintro _ H4 ⟨B2, n4, rfl, S4, hn4, kp4, hs⟩
    -- kind 2
    refine ⟨fun σ' H' => ∃ B' n', σ' = [some (.ref a), some (.ref R), some (.ref B'), some (.int kd), some (.int (i : Int)), none] ∧ StreamAt H' a l n' ∧ n' ≤ n + 3 ∧ Keep a l H H' ∧ ((kd < 3 ∧ BadAt K H' B') ∨ (3 ≤ kd ∧ B' = B ∧ H' = H2)), ?_, ?_⟩
    · refine ⟨_, rfl, rfl, _, rfl, ifD_2 (fun e => ?_) (fun e => ?_)⟩
      · have e' : kd = 2 := by injection e
        obtain ⟨rfl, rfl⟩ : B2 = B ∧ H4 = H2 := hs.elim (fun h => absurd h.1 (by omega)) fun h => h.2
        refine ⟨_, rfl, _, rfl, B2, _, rfl, .inl (SqL.of hB2), _, rfl, by show 5 ≤ sizeLine; decide, fun g hg => ?_⟩
        rw [hl1]
        have sg := new_ (o := .lst [V.int (W.length : Int), .int (-1), .bl true, .non, .str "0"]) hg
        obtain ⟨ga, gl⟩ := S2.ne hg
        refine ⟨a, l, g, _, _, rfl, S2.same sg, by omega, upd_same, ga, gl, by show 1 ≤ 5; decide, by show 5 ≤ 48; decide, fun ix x H6 hx S6 kp6 => ?_⟩
        have hcx : Cell x ∧ below W.length x = false := by
          have hx' := List.mem_of_getElem? hx
          simp only [List.mem_cons, List.not_mem_nil, or_false] at hx'
          rcases hx' with rfl | rfl | rfl | rfl | rfl
          · exact ⟨.int _, by rw [below_nat]; exact decide_eq_false (by omega)⟩
          · exact ⟨.int _, rfl⟩
          · exact ⟨.bl _, rfl⟩
          · exact ⟨.non, rfl⟩
          · exact ⟨.str _, rfl⟩
        have hB6 := kp6 _ _ Ba Bl (sg _ _ hB2)
        have hE6 : Ea H6 (isNl H B2) refs1 W := hE2.imp fun c r z => ⟨z.1, z.2.1, kp6 _ _ (S0.ne z.1).1 (S0.ne z.1).2 (sg _ _ z.2.2)⟩
        obtain ⟨ca, cl⟩ := S0.ne hcn.1
        have hc6 := kp6 _ _ ca cl (sg _ _ hcn.2.2)
        refine ⟨_, rfl, _, rfl, B2, refs1, _, _, rfl, rfl, SqL.of hB6, atI_nat hci, c, _, _, 0, rfl, rfl, hc6, rfl, B2, _, rfl, S6.lst hc6 ca cl, by omega, ?_, .inl ⟨by omega, bad_set o hci hB6 hE6 (by decide) hcx.1 (fun _ _ => .inl ⟨rfl, hcx.2⟩) hc6⟩⟩
        intro d ob da dl z
        rw [upd_ne (ne_of_none z hcn.1)]
        exact kp6 _ _ da dl (sg _ _ (kp02 _ _ da dl z))
      · have e' : kd ≠ 2 := fun z => e (by rw [z])
        refine ⟨B2, n4, rfl, S4, hn4, kp4, hs.imp (fun h => ⟨by omega, h.2⟩) fun h => ⟨by omega, h.2⟩⟩
    clear hs kp4 hn4 S4
    rintro _ H5 ⟨B3, n5, rfl, S5, hn5, kp5, hs⟩
    -- kinds 3 and 4
    refine ⟨fun σ' H' => ∃ B' n', σ' = [some (.ref a), some (.ref R), some (.ref B'), some (.int kd), some (.int (i : Int)), none] ∧ StreamAt H' a l n' ∧ n' ≤ n + 3 ∧ Keep a l H H' ∧ BadAt K H' B', ?_, ?_⟩
    · refine ⟨_, rfl, _, _, rfl, rfl, _, rfl, ifD_2 (fun e => ?_) (fun e => ?_)⟩
      · obtain ⟨rfl, rfl⟩ : B3 = B ∧ H5 = H2 := hs.elim (fun h => absurd h.1 (by omega)) fun h => h.2
        refine ⟨_, rfl, by show 6 ≤ sizeLine; decide, fun g hg => ?_⟩
        have sg := new_ (o := .lst [.str "fall", .str "Front", .str "", .non, .int 0, .str "front "]) hg
        obtain ⟨ga, gl⟩ := S2.ne hg
        refine ⟨a, l, g, _, _, rfl, S2.same sg, by omega, upd_same, ga, gl, by show 1 ≤ 6; decide, by show 6 ≤ 48; decide, fun ix x H6 hx S6 kp6 => ?_⟩
        have hcx : Cell x ∧ inV x movesV = false := by
          have hx' := List.mem_of_getElem? hx
          simp only [List.mem_cons, List.not_mem_nil, or_false] at hx'
          rcases hx' with rfl | rfl | rfl | rfl | rfl | rfl
          · exact ⟨.str _, by decide +kernel⟩
          · exact ⟨.str _, by decide +kernel⟩
          · exact ⟨.str _, by decide +kernel⟩
          · exact ⟨.non, by decide +kernel⟩
          · exact ⟨.int _, by decide +kernel⟩
          · exact ⟨.str _, by decide +kernel⟩
        have hB6 := kp6 _ _ Ba Bl (sg _ _ hB2)
        have hE6 : Ea H6 (isNl H B3) refs1 W := hE2.imp fun c r z => ⟨z.1, z.2.1, kp6 _ _ (S0.ne z.1).1 (S0.ne z.1).2 (sg _ _ z.2.2)⟩
        obtain ⟨ca, cl⟩ := S0.ne hcn.1
        have hc6 := kp6 _ _ ca cl (sg _ _ hcn.2.2)
        refine ⟨_, rfl, _, rfl, B3, refs1, _, _, rfl, rfl, SqL.of hB6, atI_nat hci, c, _, _, 1, rfl, rfl, hc6, rfl, B3, _, rfl, S6.lst hc6 ca cl, by omega, ?_, bad_set o hci hB6 hE6 (by decide) hcx.1 (fun _ _ => .inr ⟨rfl, hcx.2⟩) hc6⟩
        intro d ob da dl z
        rw [upd_ne (ne_of_none z hcn.1)]
        exact kp6 _ _ da dl (sg _ _ (kp02 _ _ da dl z))
      · refine ⟨B3, n5, rfl, S5, hn5, kp5, hs.elim (fun h => h.2) fun h => absurd h.1 (by omega)⟩
    clear hs kp5 hn5 S5
    rintro _ H6 ⟨B4, n6, rfl, S6, hn6, kp6, refs6, rows6, hB6, hE6, h10, hcc, hbad⟩
    refine ⟨_, rfl, B4, refs6, rows6, rfl, .inl (SqL.of hB6), hE6, h10, hcc, .inr ⟨hbad, fun H7 s7 σ => ⟨true, TX.e, fun _ a ha => kk n6 _ (S6.same s7) hn6 (kp6.trans (Keep.of s7)), fun q => Bool.noConfusion q⟩⟩⟩
end
end PA

set_option maxHeartbeats 8000000
namespace PA
open PySem L2 RZ
open C8 (pss_cut tCut)
abbrev sPair : Stmt := top 53
abbrev sLists : Stmt := top 54
abbrev NPair : List Str := ["_law_table", "_law_low", "_law_high", "_law_calls", "_law_state", "_law_turned", "_law_found", "_law_call", "_law_change"]
abbrev NLists : List Str := ["_law_words", "_law_marks", "_law_calls", "_law_order", "_law_states", "_law_found", "_law_case", "_law_following", "_law_word", "_law_other"]
def bitV (b : Bool) : V := .int (if b = true then 1 else 0)
def spPair (K : PySem.W.Frag) : Sp := fun vs H Q _ => ∃ (t R S C : Addr) (rn : List Rn) (st : List Nat) (lo hi k s0 : Nat) (ws : List Bool), vs = [.ref t, .int (lo : Int), .int (hi : Int), .ref C] ∧ H t = some (.tup [.ref R, .ref S, .int (k : Int)]) ∧ SideAt K H R rn ∧ SqT K H S (natsV st) ∧
  LF.TOk rn ∧ rn.length ≤ 48 ∧ lo ≤ 10 ∧ k ≤ 4 ∧ hi ≤ 10 ∧ st[lo * k + hi]? = some s0 ∧ s0 < rn.length ∧ H C = some (.lst (ws.map bitV)) ∧ ws.length ≤ 40 ∧
  ∀ L H', Same H H' → H' L = some (.lst ((MK.prun rn (s0, false) ws).map V.bl)) → Q (.ref L) H'
theorem bit_ne (b t : Bool) : (!decide (V.bl (decide (bitV b = V.int 1)) = V.bl t)) = (b != t) := by cases b <;> cases t <;> decide +kernel
theorem bl_ne (b t : Bool) : (!decide (V.bl b = V.bl t)) = (b != t) := by cases b <;> cases t <;> decide +kernel
theorem nx_eq (r : Rn) (b : Bool) : LF.nx r b = MK.nxS r b := by cases b <;> rfl
theorem fl_eq (r : Rn) (b : Bool) : LF.fl r b = MK.chg r b := by cases b <;> rfl
section
variable {P : Program} {w : World} {K : PySem.W.Frag} {mg : Str → Option Value} {base : Heap} {C : Addr}
theorem scPair : FnScope NPair ["_law_table", "_law_low", "_law_high", "_law_calls"] (defScope sPair) := ⟨rfl, rfl, rfl, by decide +kernel, rfl, by decide +kernel, by decide +kernel⟩
theorem ok_pair {f g : Addr} {fd gd : FuncData} (F : Fun K "_law_m_pair" "_law_m_pair" sPair f fd) (T : Txt K mg C) (D : Df K mg "_law_m_after" sAft g gd ["_law_row", "_law_behind"]) : FnOk P w K mg base CX0 2 f fd ["_law_table", "_law_low", "_law_high", "_law_calls"] (spPair K) := by
  have G : FnOk P w K mg base CX0 1 g gd ["_law_row", "_law_behind"] (spAft K) := ok_aft D.F
  refine F.ok scPair (fun vs H Q E h => ?_) (fun cdv A outer s H vs Q E hr h => ?_)
  · obtain ⟨t, R, S, c, _, _, lo, hi, _, _, _, rfl, _⟩ := h
    rfl
  · obtain ⟨t, R, S, c, rn, st, lo, hi, k, s0, ws, rfl, ht, hR, hS, ok, l48, lo10, k4, hi10, hst, hs0, hc, w40, kk⟩ := h
    refine ⟨_, pss_cons (ps_par3 (i := 4) (j := 5) (l := 6) (by rfl) scPair.nd rfl rfl rfl (by decide) (by decide) (by decide) rfl rfl rfl (pa_cons (pe_ix ix_tup (pe_ix ix_tup (pv 0) pe_int (fun _ _ => rfl)) (pe_op op_add (pe_op op_mul (pv 1) (pe_ix ix_tup (pv 0) pe_int (fun _ _ => rfl))) (pv 2)) (fun _ _ => rfl)) (pa_cons pe_bl (pa_cons (pe_lst pa_nil) pa_nil))) (by rfl))
      (pss_cons (ps_for PassesOwn.never rfl (pi_list (pv 3)) (pg_name (i := 7) scPair.nd rfl (Or.inl rfl))
        (pss_cons (ps_asg (pe_call G hr rfl D.M D.F.kp D.B .nil pass0 (pa_cons (pe_ix (ix_list.or ix_tup) (pe_ix ix_tup (pv 0) pe_int (fun _ _ => rfl)) (pv 4) (fun _ _ => rfl)) (pa_cons (pe_cmpR op_ne (pe_cmpR op_eq (pv 7) pe_int (nomark _)) (pv 5) (nomark _)) pa_nil))) (pg_tup rfl (pgs_cons (pg_name (i := 4) scPair.nd rfl (Or.inl rfl)) (pgs_cons (pg_name (i := 8) scPair.nd rfl (Or.inl rfl)) pgs_nil))))
        (pss_cons (ps_set (i := 5) scPair.nd rfl (Or.inl rfl) (pe_cmpR op_ne (pv 5) (pv 8) (nomark _)))
        (pss_one (ps_expr (pe_bm PySem.F.plainAttrs_list PySem.F.slot_list_append PySem.F.type_list_append mt_append (pv 6) (pa_cons (pv 5) pa_nil)))))))
      (pss_one (ps_ret (pv 6)))), ?_⟩
    have hix : atI (natsV st) ((lo : Int) * (k : Int) + (hi : Int)) = some (.int (s0 : Int)) := by
      rw [num3]
      exact atI_nat (by unfold natsV; rw [List.getElem?_map, hst]; rfl)
    refine ⟨_, rfl, t, _, 1, .ref S, rfl, rfl, SqT.of ht, rfl, _, rfl, _, rfl, t, _, 2, .int (k : Int), rfl, rfl, SqT.of ht, rfl, _, _, rfl, rfl, .inr ⟨by omega, by omega⟩, _, rfl, _, _, rfl, rfl, S, _, _, .int (s0 : Int), rfl, rfl, hS, hix, Nat.zero_le _, fun L hL => ?_⟩
    have sL := new_ (o := .lst []) hL
    have gL : (upd H L (.lst [])) L = some (.lst ((MK.prun rn (s0, false) []).map V.bl)) := upd_same
    refine ⟨_, _, _, rfl, ?_⟩
    refine ⟨_, rfl, c, rfl, ⟨_, SqL.of (sL _ _ hc)⟩, ?_⟩
    refine for_list (K := K) (a := c) (xs := ws.map bitV) (fun i σ' H' => ∃ x7 x8, σ' = [some (.ref t), some (.int (lo : Int)), some (.int (hi : Int)), some (.ref c), some (.int (((MK.prs rn (s0, false) (ws.take i)).1 : Nat) : Int)), some (.bl (MK.prs rn (s0, false) (ws.take i)).2), some (.ref L), x7, x8] ∧ Same H H' ∧ H' L = some (.lst ((MK.prun rn (s0, false) (ws.take i)).map V.bl))) ?_ ?_ ?_ ?_
    · exact ⟨none, none, rfl, sL, gL⟩
    · rintro i σ' H' _ ⟨_, _, _, s', _⟩
      exact SqL.of (s' _ _ hc)
    · rintro i x _ H1 hx ⟨x7, x8, rfl, s1, h1⟩
      rw [List.getElem?_map, Option.map_eq_some_iff] at hx
      obtain ⟨b, hb, rfl⟩ := hx
      obtain ⟨p1, r, p2, p3, p4⟩ := MK.prs_snoc ok (ws.take i) (s0, false) b hs0
      rw [← L2.take_succ' hb] at p3 p4
      generalize hp : MK.prs rn (s0, false) (ws.take i) = p at p1 p2 p3 p4
      obtain ⟨k1, refs1, c1, k1', g1, g2, g3⟩ := (hR.same s1).row p2
      refine ⟨_, rfl, t, _, 0, .ref R, rfl, rfl, SqT.of (s1 _ _ ht), rfl, _, rfl, ixk g1 g2 ⟨_, rfl, rfl, _, rfl, rfl, c1, k1', r, _, rfl, g3, fun t1 H3 s3 _ ht1 => ?_⟩⟩
      rw [bit_ne] at ht1
      refine ⟨t1, _, rfl, SqT.of ht1, rfl, _, _, rfl, _, _, rfl, rfl, ?_⟩
      refine ⟨_, rfl, _, rfl, rfl, ?_⟩
      have h3 := s3 _ _ h1
      have hsz : ((MK.prun rn (s0, false) (ws.take i)).map V.bl).length < sizeLine := by
        rw [List.length_map, MK.prun_len ok _ _ hs0, List.length_take]
        exact Nat.lt_of_le_of_lt (by omega : min i ws.length ≤ 40) (by decide)
      refine ⟨_, rfl, .inl ⟨rfl, _, SqL.of h3⟩, _, rfl, L, _, _, rfl, rfl, h3, hsz, some (bitV b), some (.bl (LF.fl r (b != p.2))), ?_, ?_, ?_⟩
      · rw [bl_ne, nx_eq, fl_eq, p3]
        rfl
      · intro d o e
        rw [upd_ne (ne_of_none e hL)]
        exact s3 _ _ (s1 _ _ e)
      · rw [upd_same, bl_ne, fl_eq, p4, List.map_append]
        rfl
    · rintro σ' H5 ⟨x7, x8, rfl, s5, h5⟩
      rw [List.length_map, List.take_length] at h5
      exact ⟨_, rfl, kk L H5 s5 h5⟩
end
/-! ### the law's own list -/
def isO (N : List Addr) (H : Hp) (c : Addr) (os : List Nat) : Prop := c ∉ N ∧ H c = some (.lst (natsV os))
def spLists : Sp := fun vs H Q _ => ∃ (Ws Ms Cs : Addr) (wrefs : List V) (W : MK.Wt) (marks calls : List Nat), vs = [.ref Ws, .ref Ms, .ref Cs] ∧ H Ws = some (.lst wrefs) ∧ Ea H isWr wrefs W ∧ MK.WOk W ∧ H Ms = some (.lst (natsV marks)) ∧ H Cs = some (.lst (natsV calls)) ∧
  (∀ x ∈ marks, x < W.length) ∧ (∀ c ∈ calls, c < marks.length) ∧ marks.length ≤ 10 ∧ calls.length ≤ 40 ∧
  ∀ L refs H', Same H H' → H' L = some (.lst refs) → Ea H' (isO []) refs ((List.range calls.length).map fun i => (MK.rns W marks calls (i + 1)).1) → Q (.ref L) H'
theorem isO.lst {N : List Addr} {H : Hp} {c D : Addr} {os : List Nat} {o : HO} (q : isO N H c os) (hD : D ∈ N) : isO N (upd H D o) c os := ⟨q.1, by rw [upd_ne (show c ≠ D from fun e => q.1 (by rw [e]; exact hD))]; exact q.2⟩
theorem natsV_flt (p : Nat → Bool) (l : List Nat) (i : Nat) {x : Nat} (h : l[i]? = some x) : natsV ((l.take (i + 1)).filter p) = natsV ((l.take i).filter p) ++ if p x = true then [V.int (x : Int)] else [] := by
  rw [L2.take_succ' h, List.filter_append]
  unfold natsV
  rw [List.map_append, List.filter_cons]
  cases p x <;> rfl
end PA

set_option maxHeartbeats 8000000
namespace PA
open PySem L2 RZ
open C8 (pss_cut tCut)
theorem dec_ne {x c : Nat} : (!decide (V.int (x : Int) = V.int (c : Int))) = decide (x ≠ c) := by
  by_cases h : x = c
  · subst h
    simp
  · have h2 : ¬ (V.int (x : Int) = V.int (c : Int)) := fun z => h (by injection z with z; omega)
    rw [decide_eq_false h2, decide_eq_true h]
    rfl
theorem natsV_len (l : List Nat) : (natsV l).length = l.length := by unfold natsV; rw [List.length_map]
theorem natsV_app (a b : List Nat) : natsV a ++ natsV b = natsV (a ++ b) := by unfold natsV; rw [List.map_append]
section
variable {P : Program} {w : World} {K : PySem.W.Frag} {mg : Str → Option Value} {base : Heap} {C : Addr}
theorem scLists : FnScope NLists ["_law_words", "_law_marks", "_law_calls"] (defScope sLists) := ⟨rfl, rfl, rfl, by decide +kernel, rfl, by decide +kernel, by decide +kernel⟩
theorem ok_lists {f : Addr} {fd : FuncData} (F : Fun K "_law_list" "_law_list" sLists f fd) (T : Txt K mg C) : FnOk P w K mg base CX0 1 f fd ["_law_words", "_law_marks", "_law_calls"] spLists := by
  refine F.ok scLists (fun vs H Q E h => ?_) (fun cdv A outer s H vs Q E hr h => ?_)
  · obtain ⟨a, b, c, _, _, _, _, rfl, _⟩ := h
    rfl
  · obtain ⟨Ws, Ms, Cs, wrefs, W, marks, calls, rfl, hW, hE, o, hM, hC, hm, hcl, m10, c40, kk⟩ := h
    refine ⟨_, pss_cons (ps_par3 (i := 3) (j := 4) (l := 5) (by rfl) scLists.nd rfl rfl rfl (by decide) (by decide) (by decide) rfl rfl rfl (pa_cons (pe_listRg (by rfl) (by rfl) T.list_ (prg_1 (by rfl) T.range_ (pe_callB call_len_seq (by rfl) T.len_ PySem.boot_len (pa_cons (pv 1) pa_nil)))) (pa_cons (pe_callTy call_list_of (by rfl) T.list_ boot_list' (pa_cons (pv 1) pa_nil)) (pa_cons (pe_lst pa_nil) pa_nil))) (by rfl))
      (pss_cons (ps_for PassesOwn.never rfl (pi_list (pv 2)) (pg_name (i := 6) scLists.nd rfl (Or.inr rfl))
        (pss_cons (ps_asg (pe_ix ix_list (pv 0) (pe_ix ix_list (pv 4) (pv 6) (fun _ _ => rfl)) (fun _ _ => rfl)) (pg_tup rfl (pgs_cons (pg_name (i := 7) scLists.nd rfl (Or.inl rfl)) (pgs_cons (pg_name (i := 8) scLists.nd rfl (Or.inl rfl)) pgs_nil))))
        (pss_cons (ps_asg (pv 7) (pg_sub (pv 4) (pv 6) set_list))
        (pss_cut (ps_if (pt_cmpR op_ne (pv 8) pe_str (nomark _))
          (pss_cons (ps_setLc (i := 3) (own := [("_law_other", 9)]) (g := gName 9) (by rfl) scLists.nd rfl rfl (sw_true rfl rfl rfl (by decide +kernel)) (pi_list (pv 3)) (blkOk_by (N := NLists) (sc := defScope sLists) (by decide +kernel))
            (fun _ _ _ _ _ => pg_name (i := 9) scLists.nd rfl (Or.inl rfl)) (fun _ _ _ _ _ => pts_one (pt_cmpR op_ne (pv 9) (pv 6) (nomark _)))
            (fun _ _ _ _ _ => pv 9))
          (pss_one (ps_set (i := 3) scLists.nd rfl (Or.inl rfl) (pe_ifExp (pt_cmpR op_eq (pv 8) pe_str (nomark _)) (pe_op op_cat (pe_lst (pa_cons (pv 6) pa_nil)) (pv 3)) (pe_op op_cat (pv 3) (pe_lst (pa_cons (pv 6) pa_nil)))))))
          pss_nil)
        (pss_one (ps_expr (pe_bm PySem.F.plainAttrs_list PySem.F.slot_list_append PySem.F.type_list_append mt_append (pv 5) (pa_cons (pv 3) pa_nil))))))))
      (pss_one (ps_ret (pv 5)))), ?_⟩
    have hml : (natsV marks).length = marks.length := natsV_len _
    refine ⟨_, rfl, Ms, _, rfl, .inl (SqL.of hM), ?_⟩
    rw [hml]
    refine ⟨_, rfl, ⟨by decide, by decide, by omega, by omega, by omega⟩, fun O hO => ?_⟩
    have sO := new_ (o := .lst (rgV 0 ((marks.length : Nat) : Int))) hO
    have gO : (upd H O (.lst (rgV 0 ((marks.length : Nat) : Int)))) O = some (.lst (natsV (List.range marks.length))) := by rw [upd_same, rg0]
    generalize (upd H O (.lst (rgV 0 ((marks.length : Nat) : Int)))) = H1 at sO gO ⊢
    refine ⟨_, rfl, Ms, _, rfl, .inl (SqL.of (sO _ _ hM)), fun S hS => ?_⟩
    have sS := new_ (o := .lst (natsV marks)) hS
    have gS : (upd H1 S (.lst (natsV marks))) S = some (.lst (natsV marks)) := upd_same
    have nOS : O ≠ S := ne_of_none gO hS
    have S0 : H S = none := L2.Same.none sO hS
    have sS2 := sO.trans sS
    have gO2 := sS _ _ gO
    generalize (upd H1 S (.lst (natsV marks))) = H2 at sS2 gS gO2 ⊢
    refine ⟨Nat.zero_le _, fun L hL => ⟨_, _, _, rfl, ?_⟩⟩
    have sL := new_ (o := .lst []) hL
    have L0 : H L = none := L2.Same.none sS2 hL
    have nLS : L ≠ S := (ne_of_none gS hL).symm
    have nLO : L ≠ O := (ne_of_none gO2 hL).symm
    have s3 := sS2.trans sL
    have gL : (upd H2 L (.lst [])) L = some (.lst []) := upd_same
    have gS3 := sL _ _ gS
    have gO3 := sL _ _ gO2
    generalize (upd H2 L (.lst [])) = H3 at s3 gL gS3 gO3 ⊢
    refine ⟨_, rfl, Cs, rfl, ⟨_, SqL.of (s3 _ _ hC)⟩, ?_⟩
    refine for_list (K := K) (a := Cs) (xs := natsV calls) (fun i σ' H' => ∃ O' x6 x7 x8 refs, σ' = [some (.ref Ws), some (.ref Ms), some (.ref Cs), some (.ref O'), some (.ref S), some (.ref L), x6, x7, x8, none] ∧ Same H H' ∧ H' S = some (.lst (natsV (MK.rns W marks calls i).2)) ∧ isO [S, L] H' O' (MK.rns W marks calls i).1 ∧
        H' L = some (.lst refs) ∧ Ea H' (isO [S, L]) refs ((List.range i).map fun j => (MK.rns W marks calls (j + 1)).1)) ?_ ?_ ?_ ?_
    · exact ⟨O, none, none, none, [], rfl, s3, gS3, ⟨by simp [nOS, nLO.symm], gO3⟩, gL, Ea.nil⟩
    · rintro i σ' H' _ ⟨_, _, _, _, _, _, s', _⟩
      exact SqL.of (s' _ _ hC)
    · rintro i x _ H4 hx ⟨O', x6, x7, x8, refs, rfl, s4, gS4, gO4, gL4, gE4⟩
      unfold natsV at hx
      rw [List.getElem?_map, Option.map_eq_some_iff] at hx
      obtain ⟨c, hc, rfl⟩ := hx
      have hi : i < calls.length := (List.getElem?_eq_some_iff.mp hc).1
      have hcm := hcl c (List.mem_of_getElem? hc)
      have hR := MK.rns_ok o hm hcl i
      have hR1 := MK.rns_ok o hm hcl (i + 1)
      have eR : MK.rns W marks calls (i + 1) = MK.stp W (MK.rns W marks calls i) c := by
        show (match calls[i]? with | none => _ | some c => _) = _
        rw [hc]
      generalize hst : MK.rns W marks calls i = st at *
      have hsl : c < st.2.length := by rw [hR.sl]; exact hcm
      have hsp : st.2[c]? = some (st.2.getD c 0) := by rw [List.getD_eq_getElem?_getD, List.getElem?_eq_getElem hsl]; rfl
      have hp := MK.getD_lt hR hcm
      generalize hpe : st.2.getD c 0 = p at hsp hp
      obtain ⟨wc, hwc, hwt⟩ := eaRow hE hp
      have hw3 := (MK.wat_ok o hp).2
      have eR1 : (MK.rns W marks calls (i + 1)).1 = MK.mvd (MK.wat W p).2 c st.1 := by rw [eR, ← hpe]; rfl
      have eR2 : (MK.rns W marks calls (i + 1)).2 = st.2.set c (MK.wat W p).1 := by rw [eR, ← hpe]; rfl
      generalize MK.wat W p = wr at hwt hw3 eR1 eR2
      refine ⟨_, rfl, _, rfl, _, rfl, S, _, (c : Int), .int (p : Int), rfl, rfl, SqL.of gS4, atI_nat (by unfold natsV; rw [List.getElem?_map, hsp]; rfl), Ws, wrefs, (p : Int), _, rfl, rfl, SqL.of (s4 _ _ hW), atI_nat hwc, wc, _, rfl, SqT.of (s4 _ _ hwt), rfl, _, _, rfl, _, _, rfl, rfl, ?_⟩
      have hixc : ixN (natsV st.2).length (c : Int) = some c := Evl.ixN_nat (by rw [natsV_len]; exact hsl)
      refine ⟨_, rfl, _, rfl, _, rfl, S, _, (c : Int), c, rfl, rfl, gS4, hixc, ?_⟩
      have s5 : Same H (upd H4 S (.lst ((natsV st.2).set c (.int (wr.1 : Int))))) := fun d ob e => by
        rw [upd_ne (ne_of_none e S0)]
        exact s4 _ _ e
      have gS5 : (upd H4 S (.lst ((natsV st.2).set c (.int (wr.1 : Int))))) S = some (.lst (natsV (MK.rns W marks calls (i + 1)).2)) := by
        rw [upd_same, eR2]
        unfold natsV
        rw [List.map_set]
      have gO5 : isO [S, L] (upd H4 S (.lst ((natsV st.2).set c (.int (wr.1 : Int))))) O' st.1 := gO4.lst (by simp)
      have gL5 : (upd H4 S (.lst ((natsV st.2).set c (.int (wr.1 : Int))))) L = some (.lst refs) := by rw [upd_ne nLS]; exact gL4
      have gE5 : Ea (upd H4 S (.lst ((natsV st.2).set c (.int (wr.1 : Int))))) (isO [S, L]) refs ((List.range i).map fun j => (MK.rns W marks calls (j + 1)).1) := gE4.imp fun d r q => q.lst (by simp)
      generalize (upd H4 S (.lst ((natsV st.2).set c (.int (wr.1 : Int))))) = H5 at s5 gS5 gO5 gL5 gE5 ⊢
      refine ⟨fun σ' H' => ∃ O2, σ' = [some (.ref Ws), some (.ref Ms), some (.ref Cs), some (.ref O2), some (.ref S), some (.ref L), some (.int (c : Int)), some (.int (wr.1 : Int)), some (.str (wordS wr.2)), none] ∧ Same H5 H' ∧ isO [S, L] H' O2 (MK.rns W marks calls (i + 1)).1, ?_, ?_⟩
      · have hol : st.1.length ≤ 10 := by rw [hR.len]; exact m10
        refine ⟨_, rfl, rfl, _, rfl, ?_⟩
        by_cases hk : wr.2 = 2
        · have e1 : (V.str (wordS wr.2) = V.str "keep") := (word_keep hw3).mpr hk
          rw [decide_eq_true e1]
          refine iteF ⟨O', rfl, fun _ _ e => e, ?_⟩
          rw [eR1]
          unfold MK.mvd
          rw [if_pos hk]
          exact gO5
        · have e1 : ¬ (V.str (wordS wr.2) = V.str "keep") := fun z => hk ((word_keep hw3).mp z)
          rw [decide_eq_false e1]
          refine iteT ⟨_, rfl, O', rfl, ⟨_, SqL.of gO5.2⟩, fun Dd hD => ?_⟩
          have nDS : Dd ≠ S := (ne_of_none gS5 hD).symm
          have nDL : Dd ≠ L := (ne_of_none gL5 hD).symm
          refine lc_list (K := K) (a := O') (xs := natsV st.1) (fun j H' => Same H5 H' ∧ H' Dd = some (.lst (natsV ((st.1.take j).filter fun x => decide (x ≠ c))))) ⟨new_ hD, upd_same⟩ (fun j H' _ q => SqL.of (q.1 _ _ gO5.2)) ?_ ?_
          · rintro j x H6 hx ⟨s6, hd⟩
            unfold natsV at hx
            rw [List.getElem?_map, Option.map_eq_some_iff] at hx
            obtain ⟨y, hy, rfl⟩ := hx
            have hf := natsV_flt (fun x => decide (x ≠ c)) st.1 j hy
            refine ⟨rfl, ?_⟩
            refine ⟨_, rfl, _, rfl, rfl, _, rfl, ?_⟩
            rw [dec_ne]
            cases hyc : decide (y ≠ c) with
            | false =>
              rw [hyc] at hf
              rw [if_neg (by decide), List.append_nil] at hf
              rw [if_neg (by decide), hf]
              exact ⟨s6, hd⟩
            | true =>
              rw [hyc, if_pos rfl] at hf
              rw [if_pos rfl]
              refine ⟨_, rfl, _, hd, ?_, ?_, ?_⟩
              · rw [natsV_len]
                have := List.length_filter_le (fun x => decide (x ≠ c)) (st.1.take j)
                rw [List.length_take] at this
                exact Nat.lt_of_le_of_lt (by omega : _ ≤ 10) (by decide)
              · intro d ob e
                rw [upd_ne (ne_of_none e hD)]
                exact s6 _ _ e
              · rw [upd_same, hf]
          · rintro H6 ⟨s6, hd⟩
            rw [natsV_len, List.take_length] at hd
            have hfl : (st.1.filter fun x => decide (x ≠ c)).length ≤ 10 := Nat.le_trans (List.length_filter_le _ _) hol
            refine ⟨_, rfl, rfl, _, rfl, ifD_2 (fun hf => ?_) (fun hf => ?_)⟩
            · have ef : wr.2 = 0 := (word_front hw3).mp hf
              refine ⟨_, rfl, by show 1 ≤ sizeLine; decide, fun q hq => ⟨_, rfl, q, Dd, _, _, rfl, rfl, upd_same, new_ hq _ _ hd, ?_, fun r hr' => ⟨r, rfl, (s6.trans (new_ hq)).trans (new_ hr'), ?_, ?_⟩⟩⟩
              · rw [natsV_len]
                exact Nat.le_trans (by show 1 + _ ≤ 11; omega) (by decide : 11 ≤ sizeLine)
              · have h1 := ne_of_none (new_ hq _ _ (s6 _ _ gS5)) hr'
                have h2 := ne_of_none (new_ hq _ _ (s6 _ _ gL5)) hr'
                simp [h1.symm, h2.symm]
              · rw [upd_same, eR1]
                unfold MK.mvd
                rw [if_neg hk, if_pos ef]
                rfl
            · have ef : ¬ wr.2 = 0 := fun z => hf ((word_front hw3).mpr z)
              refine ⟨_, rfl, _, rfl, by show 1 ≤ sizeLine; decide, fun q hq => ⟨Dd, q, _, _, rfl, rfl, new_ hq _ _ hd, upd_same, ?_, fun r hr' => ⟨r, rfl, (s6.trans (new_ hq)).trans (new_ hr'), ?_, ?_⟩⟩⟩
              · rw [natsV_len]
                exact Nat.le_trans (by show _ + 1 ≤ 11; omega) (by decide : 11 ≤ sizeLine)
              · have h1 := ne_of_none (new_ hq _ _ (s6 _ _ gS5)) hr'
                have h2 := ne_of_none (new_ hq _ _ (s6 _ _ gL5)) hr'
                simp [h1.symm, h2.symm]
              · rw [upd_same, eR1]
                unfold MK.mvd
                rw [if_neg hk, if_neg ef, ← natsV_app]
                rfl
      rintro _ H6 ⟨O2, rfl, s6, gO6⟩
      have hrl : refs.length = i := by have := gE5.1; rwa [List.length_map, List.length_range] at this
      refine ⟨_, rfl, .inl ⟨rfl, _, SqL.of (s6 _ _ gL5)⟩, _, rfl, L, _, _, rfl, rfl, s6 _ _ gL5, by rw [hrl]; exact Nat.lt_of_lt_of_le (by omega : i < 40) (by decide), O2, _, _, _, refs ++ [.ref O2], rfl, ?_, ?_, gO6.lst (by simp), upd_same, ?_⟩
      · intro d ob e
        rw [upd_ne (ne_of_none e L0)]
        exact s6 _ _ (s5 _ _ e)
      · rw [upd_ne nLS.symm]
        exact s6 _ _ gS5
      · rw [List.range_succ, List.map_append]
        exact (gE5.imp fun d r q => (show isO [S, L] H6 d r from ⟨q.1, s6 _ _ q.2⟩).lst (by simp)).push (gO6.lst (by simp))
    · rintro σ' H5 ⟨O', x6, x7, x8, refs, rfl, s5, gS5, gO5, gL5, gE5⟩
      rw [natsV_len] at gE5
      exact ⟨_, rfl, kk L refs H5 s5 gL5 (gE5.imp fun d r q => ⟨by simp, q.2⟩)⟩
end
end PA

set_option maxHeartbeats 8000000
namespace PA
open PySem L2 RZ
open C8 (pss_cut tCut)
/-! ### rows of words as data -/
def rowV (r : Nat × Nat) : List V := [.int (r.1 : Int), .str (wordS r.2)]
def wd (r : Nat × Nat) : PyData := .list [.int (r.1 : Int), .str (wordS r.2)]
theorem wds_dp {K : PySem.W.Frag} {H H0 : Hp} {D : Addr} : ∀ {xs : List V} {W : List (Nat × Nat)}, Ea H (isNl H0 D) xs W → DpAll K H xs (W.map wd)
  | [], [], _ => .nil
  | [], _ :: _, e => by cases e.1
  | _ :: _, [], e => by cases e.1
  | x :: xs, r :: W, e => by
    obtain ⟨c, hx, q⟩ := e.2 0 x r rfl rfl
    subst hx
    exact .cons (.lst (SqL.of q.2.2) (.cons (.int _) (.cons (.str _) .nil))) (wds_dp ⟨by have := e.1; simpa using this, fun i y s h1 h2 => e.2 (i + 1) y s (by simpa using h1) (by simpa using h2)⟩)
theorem word_lay : ∀ w : Nat, PyData.strOk (wordS w) = true
  | 0 => by decide +kernel
  | 1 => by decide +kernel
  | _ + 2 => by show PyData.strOk "keep" = true; decide +kernel
theorem wd_lay (r : Nat × Nat) : (wd r).canLay0 = true := by simp [wd, PyData.canLay0, PyData.canLayAll0, word_lay]
theorem wds_lay : ∀ rows : List (Nat × Nat), PyData.canLayAll0 (rows.map wd) = true
  | [] => by simp [PyData.canLayAll0]
  | r :: rows => by simp [PyData.canLayAll0, wd_lay r, wds_lay rows]
theorem wd_depth (r : Nat × Nat) : PyData.depth (wd r) ≤ 3 := by simp [wd, PyData.depth, PyData.depthAll]
theorem wds_depth : ∀ rows : List (Nat × Nat), PyData.depthAll (rows.map wd) ≤ 4
  | [] => by simp [PyData.depthAll]
  | r :: rows => by
    have h1 := wds_depth rows
    have h2 := wd_depth r
    simp only [List.map_cons, PyData.depthAll]
    omega
theorem wds_shaped (rows : List (Nat × Nat)) : SeqAt.shaped (.list (rows.map wd)) = true := by
  have h1 := wds_depth rows
  have h2 : PyData.depth (.list (rows.map wd)) ≤ 64 := by
    simp only [PyData.depth]
    omega
  show (PyData.canLay0 (.list (rows.map wd)) && decide (PyData.depth (.list (rows.map wd)) ≤ 64)) = true
  rw [Bool.and_eq_true]
  exact ⟨by simp only [PyData.canLay0]; exact wds_lay rows, decide_eq_true h2⟩
theorem wds_eqv (rows : List (Nat × Nat)) : PyData.eqv (.list (rows.map wd)) (.list (rows.map wd)) = true := SeqAt.eqv_refl _ (by simp only [PyData.canLay0]; exact wds_lay rows)
/-! ### places in lists -/
theorem idx3 {l : List Nat} {x : Nat} (hx : x ∈ l) (nd : l.Nodup) : (natsV l)[LF.ix l x]? = some (.int (x : Int)) ∧ eqV (.int (x : Int)) (.int (x : Int)) = true ∧ ∀ (m : Nat) (z' : V), m < LF.ix l x → (natsV l)[m]? = some z' → eqV z' (.int (x : Int)) = false := by
  refine ⟨?_, ?_, ?_⟩
  · unfold natsV
    rw [List.getElem?_map, LF.get_ix hx]
    rfl
  · simp [eqV]
  · intro m z' hm hz
    unfold natsV at hz
    rw [List.getElem?_map, Option.map_eq_some_iff] at hz
    obtain ⟨y, hy, rfl⟩ := hz
    have hne : y ≠ x := fun e => by
      rw [e] at hy
      have := LF.ix_get nd hy
      omega
    have : ¬ ((y : Int) = (x : Int)) := fun e => hne (by omega)
    simp [eqV]
    omega
theorem ifNo {p A B : Prop} [Decidable p] (h : p) (q : B) : if (!decide p) = true then A else B := by
  rw [decide_eq_true h]
  exact q
theorem in_two (c lo hi : Nat) : inV (.int (c : Int)) [V.int (lo : Int), .int (hi : Int)] = (decide (c = lo) || decide (c = hi)) := by
  have key : ∀ y : Nat, eqV (.int (y : Int)) (.int (c : Int)) = decide (c = y) := fun y => by
    by_cases h : c = y
    · subst h
      simp [eqV]
    · have : ¬ (y : Int) = (c : Int) := fun e => h (by omega)
      have h' : ¬ y = c := fun e => h e.symm
      simp [eqV, h]
      omega
  show ([V.int (lo : Int), .int (hi : Int)].any fun y => eqV y (.int (c : Int))) = _
  simp only [List.any_cons, List.any_nil, Bool.or_false, key]
/-! ### what the stream leaves -/
theorem SqT.kp {K : PySem.W.Frag} {H H' : Hp} {a l c : Addr} {n : Nat} {xs : List V} (h : SqT K H c xs) (S : StreamAt H a l n) (k : Keep a l H H') : SqT K H' c xs := by
  obtain ⟨ne, ns, x, z, h1, h2, _⟩ := S
  rcases h with (h | ⟨ob, h⟩) | h
  · exact .inl (.inl (k _ _ (ne_of (H := H) h h1 (by intro z; cases z)) (ne_of (H := H) h h2 (by intro z; cases z)) h))
  · exact .inl (.inr ⟨ob, k _ _ (ne_of (H := H) h h1 (by intro z; cases z)) (ne_of (H := H) h h2 (by intro z; cases z)) h⟩)
  · exact .inr h
theorem tup_kp {H H' : Hp} {a l c : Addr} {n : Nat} {xs : List V} (h : H c = some (.tup xs)) (S : StreamAt H a l n) (k : Keep a l H H') : H' c = some (.tup xs) := by
  obtain ⟨ne, ns, x, z, h1, h2, _⟩ := S
  exact k _ _ (ne_of (H := H) h h1 (by intro z; cases z)) (ne_of (H := H) h h2 (by intro z; cases z)) h
theorem RuleAt.kp {K : PySem.W.Frag} {C : Addr} {H H' : Hp} {a l : Addr} {n : Nat} {p : Addr} {rows : List Rw} {starts : List Int} {k : Int} (r : RuleAt K C H p rows starts k) (S : StreamAt H a l n) (kp : Keep a l H H') : RuleAt K C H' p rows starts k := by
  obtain ⟨dx, R, St, refs, h1, h2, h3, h4⟩ := r
  obtain ⟨ne, ns, x, z, g1, g2, _⟩ := id S
  exact ⟨dx, R, St, refs, kp _ _ (ne_of (H := H) h1 g1 (by intro z; cases z)) (ne_of (H := H) h1 g2 (by intro z; cases z)) h1, tup_kp h2 S kp, h3.imp fun c r q => tup_kp q S kp, SqT.kp h4 S kp⟩
/-! ### the pair in the least form -/
theorem pair_eq {W : MK.Wt} (o : MK.WOk W) {marks calls : List Nat} (hm : ∀ x ∈ marks, x < W.length) (hc : ∀ c ∈ calls, c < marks.length) {lo hi : Nat} (hh : hi < marks.length) (lh : lo < hi) :
    ∃ s0, (LF.lf (MK.mrows W) (List.range (W.length * W.length))).2[marks.getD lo 0 * W.length + marks.getD hi 0]? = some s0 ∧ s0 < (LF.lf (MK.mrows W) (List.range (W.length * W.length))).1.length ∧
      MK.prun (LF.lf (MK.mrows W) (List.range (W.length * W.length))).1 (s0, false) (MK.own calls lo hi calls.length) = (MK.mine calls lo hi calls.length).map fun k => MK.ahd (MK.rns W marks calls (k + 1)).1 hi lo := by
  have g := mgood o
  have hl : lo < marks.length := by omega
  have gd : ∀ {x : Nat}, x < marks.length → marks.getD x 0 < W.length := fun {x} h => by
    rw [List.getD_eq_getElem?_getD, List.getElem?_eq_getElem h]
    exact hm _ (List.getElem_mem h)
  have hi2 : marks.getD lo 0 * W.length + marks.getD hi 0 < W.length * W.length := MK.mul_lt (gd hl) (gd hh)
  have hr : (List.range (W.length * W.length))[marks.getD lo 0 * W.length + marks.getD hi 0]? = some (marks.getD lo 0 * W.length + marks.getD hi 0) := List.getElem?_range hi2
  have hlen : (LF.lf (MK.mrows W) (List.range (W.length * W.length))).2.length = W.length * W.length := by rw [LF.lf_len, List.length_range]
  have hs := List.getElem?_eq_getElem (l := (LF.lf (MK.mrows W) (List.range (W.length * W.length))).2) (i := marks.getD lo 0 * W.length + marks.getD hi 0) (by rw [hlen]; exact hi2)
  refine ⟨_, hs, LF.lf_st g.ok g.so _ (List.mem_of_getElem? hs), ?_⟩
  have al := (LF.lf_alk g.ok g.so).get hs hr
  rw [MK.prun_alk g.lf.ok g.ok _ ⟨LF.lf_st g.ok g.so _ (List.mem_of_getElem? hs), by rw [MK.mrows_len]; exact hi2, al⟩]
  have e := (MK.sim o hm hc hl hh lh calls.length).2
  rw [MK.pst_0 lh hh] at e
  exact e
end PA

set_option maxHeartbeats 8000000
namespace PA
open PySem L2 RZ
open C8 (pss_cut tCut)
abbrev sLaw : Stmt := top 56
abbrev NLaw : List Str := ["_law_script", "_law_stream", "_law_size", "_law_k", "_law_words", "_law_given", "_law_before", "_law_rule", "_law_made", "_law_marks", "_law_calls", "_law_lists", "_law_low", "_law_high", "_law_mine", "_law_own", "_law_turned", "_law_place", "_law_first", "_law_row"]
theorem op_inK {X : Cx} {K : PySem.W.Frag} (h : X.K = K) : OpR X (compareOp .In) (rIn K false) := h ▸ op_in_seq
structure Prog (K : PySem.W.Frag) (mg : Str → Option Value) (C X fI dd g1 g2 g3 g4 fLe m1 m2 m3 f1 f2 f3 f4 f5 f6 f7 fMk fDraw fStart fPick fHd fAft fUnl fVis fLst fCa fPr fLi fRf : Addr) (dI gd1 gd2 gd3 gd4 dLe e1 e2 e3 d1 d2 d3 d4 d5 d6 d7 dMk dDraw dStart dPick dHd dAft dUnl dVis dLst dCa dPr dLi dRf : FuncData) : Prop where
  L : LibM K mg C X fI dd g1 g2 g3 g4 fLe m1 m2 m3 f1 f2 f3 f4 f5 f6 f7 dI gd1 gd2 gd3 gd4 dLe e1 e2 e3 d1 d2 d3 d4 d5 d6 d7
  mkd : Df K mg "marked" sMarked fMk dMk ["rows"]
  draw : Df K mg "_law_draw" sDraw fDraw dDraw ["_law_stream", "_law_many"]
  start : Df K mg "_law_start" sStart fStart dStart ["_law_script"]
  pick : Df K mg "_law_pick" sPick fPick dPick ["_law_stream", "_law_some"]
  hd : Df K mg "_law_m_handed" sHanded fHd dHd ["_law_stream", "_law_rows"]
  aft : Df K mg "_law_m_after" sAft fAft dAft ["_law_row", "_law_behind"]
  unl : Df K mg "_law_m_unlike" sUnlike fUnl dUnl ["_law_one", "_law_other", "_law_pairs"]
  vis : Df K mg "_law_m_visits" sVisits fVis dVis ["_law_rows", "_law_starts"]
  lst : Df K mg "_law_m_least" sLst fLst dLst ["_law_rule"]
  calls : Df K mg "_law_m_calls" sCalls fCa dCa ["_law_stream", "_law_cases", "_law_most"]
  pair : Df K mg "_law_m_pair" sPair fPr dPr ["_law_table", "_law_low", "_law_high", "_law_calls"]
  lists : Df K mg "_law_list" sLists fLi dLi ["_law_words", "_law_marks", "_law_calls"]
  refused : Df K mg "_law_refused" sRefused fRf dRf ["_law_stream", "_law_words"]
def spLaw (K : PySem.W.Frag) : Sp := fun vs H Q _ => ∃ (a : Addr) (ns : List Int), vs = [.ref a] ∧ SqL K H a (ns.map V.int) ∧ ns.length ≤ 63 ∧ ∀ H', Q (.bl true) H'
section
variable {P : Program} {w : World} {K : PySem.W.Frag} {mg : Str → Option Value} {base : Heap}
theorem scLaw : FnScope NLaw ["_law_script"] (defScope sLaw) := ⟨rfl, rfl, rfl, by decide +kernel, rfl, by decide +kernel, by decide +kernel⟩
theorem ok_law {f C X fI dd g1 g2 g3 g4 fLe m1 m2 m3 f1 f2 f3 f4 f5 f6 f7 fMk fDraw fStart fPick fHd fAft fUnl fVis fLst fCa fPr fLi fRf : Addr} {fd dI gd1 gd2 gd3 gd4 dLe e1 e2 e3 d1 d2 d3 d4 d5 d6 d7 dMk dDraw dStart dPick dHd dAft dUnl dVis dLst dCa dPr dLi dRf : FuncData} (F : Fun K "law" "law" sLaw f fd)
    (G : Prog K mg C X fI dd g1 g2 g3 g4 fLe m1 m2 m3 f1 f2 f3 f4 f5 f6 f7 fMk fDraw fStart fPick fHd fAft fUnl fVis fLst fCa fPr fLi fRf dI gd1 gd2 gd3 gd4 dLe e1 e2 e3 d1 d2 d3 d4 d5 d6 d7 dMk dDraw dStart dPick dHd dAft dUnl dVis dLst dCa dPr dLi dRf) : FnOk P w K mg base CX0 10 f fd ["_law_script"] (spLaw K) := by
  have T := G.L.T
  have GM : FnOk P w K mg base (L2.CX P w) 8 fMk dMk ["rows"] (spMarked K C X) := ok_marked G.mkd.F G.L
  have GDraw : FnOk P w K mg base CX0 1 fDraw dDraw ["_law_stream", "_law_many"] spDraw := ok_draw G.draw.F T
  have GStart : FnOk P w K mg base CX0 1 fStart dStart ["_law_script"] (spStart K) := ok_start G.start.F T
  have GPick : FnOk P w K mg base CX0 2 fPick dPick ["_law_stream", "_law_some"] spPick := ok_pick G.pick.F T G.draw
  have GHd : FnOk P w K mg base CX0 2 fHd dHd ["_law_stream", "_law_rows"] spHanded := ok_handed G.hd.F T G.draw
  have GLst : FnOk P w K mg base CX0 3 fLst dLst ["_law_rule"] (spLst K C) := ok_lst G.lst.F T G.vis G.unl G.aft
  have GCa : FnOk P w K mg base CX0 2 fCa dCa ["_law_stream", "_law_cases", "_law_most"] spCalls := ok_calls G.calls.F T G.draw
  have GPr : FnOk P w K mg base CX0 2 fPr dPr ["_law_table", "_law_low", "_law_high", "_law_calls"] (spPair K) := ok_pair G.pair.F T G.aft
  have GLi : FnOk P w K mg base CX0 1 fLi dLi ["_law_words", "_law_marks", "_law_calls"] spLists := ok_lists G.lists.F T
  have GRf : FnOk P w K mg base CX0 9 fRf dRf ["_law_stream", "_law_words"] (spRefused K) := ok_refused G.refused.F G.L G.mkd G.draw G.pick
  refine F.ok scLaw (fun vs H Q E h => ?_) (fun cdv A outer s H vs Q E hr h => ?_)
  · obtain ⟨a, ns, rfl, _⟩ := h
    rfl
  · obtain ⟨a, ns, rfl, hS, hlen, kk⟩ := h
    have hr1 : Room 1 _ := hr.mono (by decide)
    have hr2 : Room 2 _ := hr.mono (by decide)
    have hr3 : Room 3 _ := hr.mono (by decide)
    have hr8 : Room 8 _ := hr.mono (by decide)
    have e24 := @sm48
    refine ⟨_, pss_cons (ps_set (i := 1) scLaw.nd rfl (Or.inr rfl) (pe_call GStart hr1 rfl G.start.M G.start.F.kp G.start.B .nil pass0 (pa_cons (pv 0) pa_nil)))
      (pss_cons (ps_set (i := 2) scLaw.nd rfl (Or.inr rfl) (pe_op op_add pe_int (pe_call GDraw hr1 rfl G.draw.M G.draw.F.kp G.draw.B .nil pass0 (pa_cons (pv 1) (pa_cons pe_int pa_nil)))))
      (pss_cut (ps_setLc (i := 4) (own := [("_law_k", 3)]) (g := gName 3) (tt := tYes) (by rfl) scLaw.nd rfl rfl (sw_true rfl rfl rfl (by decide +kernel)) (pi_range1 (by rfl) T.range_ (pa_cons (pv 2) pa_nil)) (blkOk_by (N := NLaw) (sc := defScope sLaw) (by decide +kernel))
          (fun _ _ _ _ _ => pg_name (i := 3) scLaw.nd rfl (Or.inl rfl)) (fun _ _ _ _ _ => pts_nil)
          (fun _ _ _ _ _ => pe_tup (pa_cons (pe_call GDraw hr1 rfl G.draw.M G.draw.F.kp G.draw.B .nil pass0 (pa_cons (pv 1) (pa_cons (pv 2) pa_nil))) (pa_cons (pe_call GPick hr2 rfl G.pick.M G.pick.F.kp G.pick.B .nil pass0 (pa_cons (pv 1) (pa_cons (pe_lst (pa_cons pe_str (pa_cons pe_str (pa_cons pe_str (pa_cons pe_str pa_nil))))) pa_nil))) pa_nil))))
      (pss_cons (ps_set (i := 5) scLaw.nd rfl (Or.inl rfl) (pe_call GHd hr2 rfl G.hd.M G.hd.F.kp G.hd.B .nil pass0 (pa_cons (pv 1) (pa_cons (pv 4) pa_nil))))
      (pss_cut (ps_setLc (i := 6) (own := [("_law_row", 19)]) (g := gName 19) (tt := tYes) (by rfl) scLaw.nd rfl rfl (sw_true rfl rfl rfl (by decide +kernel)) (pi_sq (pv 5)) (blkOk_by (N := NLaw) (sc := defScope sLaw) (by decide +kernel))
          (fun _ _ _ _ _ => pg_name (i := 19) scLaw.nd rfl (Or.inl rfl)) (fun _ _ _ _ _ => pts_nil)
          (fun _ _ _ _ _ => pe_callTy (call_listK (K := K) rfl) (by rfl) T.list_ boot_list' (pa_cons (pv 19) pa_nil)))
      (pss_cons (ps_set (i := 7) scLaw.nd rfl (Or.inl rfl) (pe_call (E := E0) GM hr8 rfl G.mkd.M G.mkd.F.kp G.mkd.B .nil passL (pa_cons (pv 5) pa_nil)))
      (pss_cut (ps_if (PW.pt (pw_or (pt_cmpR (op_neD hr.units) (pe_lc (own := [("_law_row", 19)]) (g := gName 19) (tt := tYes) (by rfl) scLaw.nd (pi_sq (pv 5)) (blkOk_by (N := NLaw) (sc := defScope sLaw) (by decide +kernel))
          (fun _ _ _ _ _ => pg_name (i := 19) scLaw.nd rfl (Or.inl rfl)) (fun _ _ _ _ _ => pts_nil)
          (fun _ _ _ _ _ => pe_callTy (call_listK (K := K) rfl) (by rfl) T.list_ boot_list' (pa_cons (pv 19) pa_nil))) (pv 6) (nomark _))
          (pw_or1 (pt_cmpR op_ne (pe_fld (pv 7) rfl) (pv 2) (nomark _))))) pss_never pss_nil)
      (pss_cut (ps_if (PW.pt (pw_or (pt_not (pt_val (pe_call GLst hr3 rfl G.lst.M G.lst.F.kp G.lst.B .nil pass0 (pa_cons (pv 7) pa_nil))))
          (pw_or1 (pt_not (pt_val (pe_call GRf hr rfl G.refused.M G.refused.F.kp G.refused.B .nil pass0 (pa_cons (pv 1) (pa_cons (pv 4) pa_nil)))))))) pss_never pss_nil)
      (pss_cut (ps_set (i := 8) scLaw.nd rfl (Or.inl rfl) (pe_tup (pa_cons (pe_fld (pv 7) rfl) (pa_cons (pe_fld (pv 7) rfl) (pa_cons (pe_fld (pv 7) rfl) pa_nil)))))
      (pss_cut (ps_setLc (i := 9) (own := [("_law_k", 3)]) (g := gName 3) (tt := tYes) (by rfl) scLaw.nd rfl rfl (sw_true rfl rfl rfl (by decide +kernel)) (pi_range1 (by rfl) T.range_ (pa_cons (pe_op op_add pe_int (pe_call GDraw hr1 rfl G.draw.M G.draw.F.kp G.draw.B .nil pass0 (pa_cons (pv 1) (pa_cons pe_int pa_nil)))) pa_nil)) (blkOk_by (N := NLaw) (sc := defScope sLaw) (by decide +kernel))
          (fun _ _ _ _ _ => pg_name (i := 3) scLaw.nd rfl (Or.inl rfl)) (fun _ _ _ _ _ => pts_nil)
          (fun _ _ _ _ _ => pe_call GDraw hr1 rfl G.draw.M G.draw.F.kp G.draw.B .nil pass0 (pa_cons (pv 1) (pa_cons (pv 2) pa_nil))))
      (pss_cons (ps_set (i := 10) scLaw.nd rfl (Or.inr rfl) (pe_call GCa hr2 rfl G.calls.M G.calls.F.kp G.calls.B .nil pass0 (pa_cons (pv 1) (pa_cons (pe_callB call_len_seq (by rfl) T.len_ PySem.boot_len (pa_cons (pv 9) pa_nil)) (pa_cons pe_int pa_nil)))))
      (pss_cut (ps_set (i := 11) scLaw.nd rfl (Or.inl rfl) (pe_call GLi hr1 rfl G.lists.M G.lists.F.kp G.lists.B .nil pass0 (pa_cons (pv 4) (pa_cons (pv 9) (pa_cons (pv 10) pa_nil)))))
      (pss_cons (ps_for PassesOwn.never rfl (pi_range1 (by rfl) T.range_ (pa_cons (pe_callB call_len_seq (by rfl) T.len_ PySem.boot_len (pa_cons (pv 9) pa_nil)) pa_nil)) (pg_name (i := 12) scLaw.nd rfl (Or.inr rfl))
        (pss_one (ps_for PassesOwn.never rfl (pi_range2 (by rfl) T.range_ (pa_cons (pe_op op_add (pv 12) pe_int) (pa_cons (pe_callB call_len_seq (by rfl) T.len_ PySem.boot_len (pa_cons (pv 9) pa_nil)) pa_nil))) (pg_name (i := 13) scLaw.nd rfl (Or.inr rfl))
          (pss_cut (ps_setLc (i := 14) (own := [("_law_k", 3)]) (g := gName 3) (by rfl) scLaw.nd rfl rfl (sw_true rfl rfl rfl (by decide +kernel)) (pi_range1 (by rfl) T.range_ (pa_cons (pe_callB call_len_seq (by rfl) T.len_ PySem.boot_len (pa_cons (pv 10) pa_nil)) pa_nil)) (blkOk_by (N := NLaw) (sc := defScope sLaw) (by decide +kernel))
              (fun _ _ _ _ _ => pg_name (i := 3) scLaw.nd rfl (Or.inl rfl)) (fun _ _ _ _ _ => pts_one (pt_cmpR (op_inK (K := K) rfl) (pe_ix (ix_listK (K := K) rfl) (pv 10) (pv 3) (fun _ _ => rfl)) (pe_tup (pa_cons (pv 12) (pa_cons (pv 13) pa_nil))) rfl))
              (fun _ _ _ _ _ => pv 3))
          (pss_cut (ps_setLc (i := 15) (own := [("_law_k", 3)]) (g := gName 3) (tt := tYes) (by rfl) scLaw.nd rfl rfl (sw_true rfl rfl rfl (by decide +kernel)) (pi_list (pv 14)) (blkOk_by (N := NLaw) (sc := defScope sLaw) (by decide +kernel))
              (fun _ _ _ _ _ => pg_name (i := 3) scLaw.nd rfl (Or.inl rfl)) (fun _ _ _ _ _ => pts_nil)
              (fun _ _ _ _ _ => pe_callTy call_int1 (by rfl) T.int_ boot_int' (pa_cons (pe_cmpR op_eq (pe_ix (ix_listK (K := K) rfl) (pv 10) (pv 3) (fun _ _ => rfl)) (pv 13) (nomark _)) pa_nil)))
          (pss_cons (ps_set (i := 16) scLaw.nd rfl (Or.inl rfl) (pe_call GPr hr2 rfl G.pair.M G.pair.F.kp G.pair.B .nil pass0 (pa_cons (pv 8) (pa_cons (pe_ix ix_list (pv 9) (pv 12) (fun _ _ => rfl)) (pa_cons (pe_ix ix_list (pv 9) (pv 13) (fun _ _ => rfl)) (pa_cons (pv 15) pa_nil))))))
          (pss_one (ps_for PassesOwn.never rfl (pi_enumK (by rfl) G.L.LF.hen (pa_cons (pv 14) pa_nil)) (pg_tup rfl (pgs_cons (pg_name (i := 17) scLaw.nd rfl (Or.inl rfl)) (pgs_cons (pg_name (i := 3) scLaw.nd rfl (Or.inl rfl)) pgs_nil)))
            (pss_cons (ps_set (i := 18) scLaw.nd rfl (Or.inl rfl) (pe_cmpR op_lt (pe_bm PySem.F.plainAttrs_list PySem.F.slot_list_index PySem.F.type_list_index mt_index (pe_ix ix_list (pv 11) (pv 3) (fun _ _ => rfl)) (pa_cons (pv 13) pa_nil)) (pe_bm PySem.F.plainAttrs_list PySem.F.slot_list_index PySem.F.type_list_index mt_index (pe_ix ix_list (pv 11) (pv 3) (fun _ _ => rfl)) (pa_cons (pv 12) pa_nil)) (nomark _)))
            (pss_one (ps_if (pt_cmpR op_ne (pe_ix ix_list (pv 16) (pv 17) (fun _ _ => rfl)) (pv 18) (nomark _)) pss_never pss_nil)))))))))))
      (pss_one (ps_ret pe_bl)))))))))))))), ?_⟩
    refine ⟨_, rfl, a, ns, rfl, hS, hlen, fun sa sl H1 S1 _ _ _ => ?_⟩
    -- the size and the rows of words
    refine ⟨_, rfl, sa, sl, 0, 4, rfl, S1, by decide, by decide, e24 (by decide) (by decide), fun r H2 r0 r1 S2 _ => ⟨_, _, rfl, rfl, ?_⟩⟩
    clear S1 hS hlen
    refine ⟨fun σ' H' => ∃ W Wd wrefs k, σ' = [some (.ref a), some (.ref sa), some (.int ((W.length : Nat) : Int)), none, some (.ref Wd), none, none, none, none, none, none, none, none, none, none, none, none, none, none, none] ∧ MK.WOk W ∧ StreamAt H' sa sl k ∧ k ≤ 20 ∧ H' Wd = some (.lst wrefs) ∧ Wd ≠ sa ∧ Wd ≠ sl ∧ Ea H' isWr wrefs W, ?_, ?_⟩
    · refine ⟨_, rfl, (1 + r), rfl, by omega, by omega, fun Dd hD => ?_⟩
      obtain ⟨Da, Dl⟩ := S2.ne hD
      refine lc_range (n := (1 + r).toNat) (fun j H' => StreamAt H' sa sl (1 + 2 * j) ∧ ∃ acc W, H' Dd = some (.lst acc) ∧ Ea H' isWr acc W ∧ W.length = j ∧ ∀ z ∈ W, z.1 < (1 + r).toNat ∧ z.2 < 3) ⟨S2.same (new_ hD), [], [], upd_same, Ea.nil, rfl, fun z hz => (List.not_mem_nil hz).elim⟩ ?_ ?_
      · rintro j H3 hj ⟨S3, acc, W, hd, hE, hl, hW⟩
        refine ⟨rfl, ?_⟩
        dsimp only [tYes]
        rw [if_pos rfl]
        refine ⟨_, rfl, _, rfl, sa, sl, _, (1 + r), rfl, S3, by omega, by omega, e24 (by omega) (by omega), fun z H4 z0 z1 S4 kp4 => ?_⟩
        refine ⟨_, rfl, by show 4 ≤ sizeLine; decide, fun g hg => ?_⟩
        obtain ⟨ga, gl⟩ := S4.ne hg
        have sg := new_ (o := .lst [.str "front", .str "back", .str "keep", .str "front"]) hg
        refine ⟨sa, sl, g, _, _, rfl, S4.same sg, by omega, upd_same, ga, gl, by show 1 ≤ 4; decide, by show 4 ≤ 48; decide, fun ix x H5 hx S5 kp5 => ⟨by show 2 ≤ sizeLine; decide, fun t ht => ?_⟩⟩
        obtain ⟨v, hv, rfl⟩ : ∃ v, v < 3 ∧ x = .str (wordS v) := by
          have hx' := List.mem_of_getElem? hx
          simp only [List.mem_cons, List.not_mem_nil, or_false] at hx'
          rcases hx' with rfl | rfl | rfl | rfl
          · exact ⟨0, by decide, rfl⟩
          · exact ⟨1, by decide, rfl⟩
          · exact ⟨2, by decide, rfl⟩
          · exact ⟨0, by decide, rfl⟩
        have hd5 := kp5 _ _ Da Dl (sg _ _ (kp4 _ _ Da Dl hd))
        have st := new_ (o := .tup [.int z, .str (wordS v)]) ht
        have hl2 : acc.length = j := by rw [hE.1, hl]
        have hz : z = ((z.toNat : Nat) : Int) := (Int.toNat_of_nonneg z0).symm
        refine ⟨acc, st _ _ hd5, by rw [hl2]; exact Nat.lt_of_lt_of_le (by omega : j < 4) (by decide), ?_, acc ++ [.ref t], W ++ [(z.toNat, v)], upd_same, ?_, by rw [List.length_append, hl]; rfl, ?_⟩
        · exact ((S5.same st).lst (st _ _ hd5) Da Dl).at_ (by omega)
        · have ne : ∀ c s, isWr (upd H5 t (.tup [.int z, .str (wordS v)])) c s → isWr (upd (upd H5 t (.tup [.int z, .str (wordS v)])) Dd (.lst (acc ++ [.ref t]))) c s := fun c s q => by
            show (upd (upd H5 t (.tup [.int z, .str (wordS v)])) Dd (.lst (acc ++ [.ref t]))) c = _
            rw [upd_ne (ne_of (H := upd H5 t (.tup [.int z, .str (wordS v)])) q (st _ _ hd5) (by intro y; cases y))]
            exact q
          refine Ea.push (hE.imp fun c s q => ne c s (st _ _ (tup_kp (sg _ _ (tup_kp q S3 kp4)) (S4.same sg) kp5))) (ne t _ ?_)
          show (upd H5 t (.tup [.int z, .str (wordS v)])) t = some (.tup [.int ((z.toNat : Nat) : Int), .str (wordS v)])
          rw [upd_same, ← hz]
        · intro y hy
          rcases List.mem_append.mp hy with hy | hy
          · exact hW y hy
          · rw [List.mem_singleton.mp hy]
            exact ⟨by show z.toNat < _; omega, hv⟩
      · rintro H3 ⟨S3, acc, W, hd, hE, hl, hW⟩
        refine ⟨W, Dd, acc, _, ?_, ⟨by omega, by omega, fun z hz => by rw [hl]; exact hW z hz⟩, S3, by omega, hd, Da, Dl, hE⟩
        rw [hl, Int.toNat_of_nonneg (by omega)]
        rfl
    clear S2 r0 r1
    rintro _ H3 ⟨W, Wd, wrefs, k3, rfl, o, S3, hk3, hWd, Wa, Wl, hE3⟩
    have h4 := o.four
    have h1 := o.one
    -- handed in, and what stood before
    refine ⟨_, rfl, _, rfl, sa, sl, Wd, k3, wrefs, W.map rowV, rfl, S3, by omega, hWd, Wa, Wl, ⟨by rw [List.length_map]; exact hE3.1, fun i x q hx hq => ?_⟩, by rw [List.length_map]; omega, fun Gv grefs k4 H4 hG hEG S4 hk4 kp4 => ?_⟩
    · rw [List.getElem?_map, Option.map_eq_some_iff] at hq
      obtain ⟨s, hs, rfl⟩ := hq
      obtain ⟨c, rfl, q⟩ := hE3.2 i x s hx hs
      exact ⟨c, rfl, .inl q⟩
    have hWd4 := kp4 _ _ Wa Wl hWd
    have hE4 : Ea H4 isWr wrefs W := hE3.imp fun c r q => tup_kp q S3 kp4
    clear kp4 hE3 hWd S3
    obtain ⟨kG, hG⟩ : ∃ kG, Sk K kG H4 Gv grefs := hG.elim (fun h => ⟨.l, SqL.of h⟩) fun h => ⟨.t, SqT.of h⟩
    have hEQ : Ea H4 (isSr K) grefs (W.map encW) := ⟨by have := hEG.1; rw [List.length_map] at this ⊢; exact this, fun i x q hx hq => by
      rw [List.getElem?_map, Option.map_eq_some_iff] at hq
      obtain ⟨s, hs, rfl⟩ := hq
      obtain ⟨c, rfl, q⟩ := hEG.2 i x (rowV s) hx (by rw [List.getElem?_map, hs]; rfl)
      exact ⟨c, rfl, q.elim .inr fun q => .inl q.2⟩⟩
    clear hEG
    have hlg : grefs.length = W.length := by have := hEQ.1; rwa [List.length_map] at this
    have hgs : grefs.length ≤ sizeLine := by rw [hlg]; exact Nat.le_trans h4 (by decide)
    have cpy : ∀ {H5 : Hp} {Dd : Addr}, H5 Dd = none → Same H4 H5 → ∀ (i : Nat) (x : V) (H' : Hp) (acc : List V) (Φ : V → Hp → Prop), grefs[i]? = some x → Same H5 H' → H' Dd = some (.lst acc) → Ea H' (isNl H5 Dd) acc (W.take i) →
        (∀ (y : V) (H6 : Hp), Same H' H6 → H6 Dd = some (.lst acc) → (∀ H7, But Dd H6 H7 → Ea H7 (isNl H5 Dd) (acc ++ [y]) (W.take (i + 1))) → Φ y H6) → rLstK K [x] H' Φ := by
      intro H5 Dd hD s5 i x H' acc Φ hx sm hd he kf
      obtain ⟨c, q, rfl, hq, hc⟩ := hEQ.at_ hx
      rw [List.getElem?_map, Option.map_eq_some_iff] at hq
      obtain ⟨s, hs, rfl⟩ := hq
      have hc' : SqL K H' c [V.int (s.1 : Int), .str (wordS s.2)] ∨ SqT K H' c [V.int (s.1 : Int), .str (wordS s.2)] := hc.elim (fun h => .inl (SqL.of (sm _ _ (s5 _ _ h)))) fun h => .inr (SqT.of (sm _ _ (s5 _ _ h)))
      refine ⟨c, _, rfl, hc', fun p hp => ?_⟩
      have sq := new_ (o := .lst [V.int (s.1 : Int), V.str (wordS s.2)]) hp
      have pD := ne_of_none hd hp
      refine kf _ _ sq (sq _ _ hd) fun H7 b => ?_
      rw [take_succ' hs]
      exact Ea.push (he.imp fun c' r' z => ⟨z.1, z.2.1, b _ _ z.2.1 (sq _ _ z.2.2)⟩) ⟨L2.Same.none sm hp, pD.symm, b _ _ pD.symm upd_same⟩
    refine ⟨fun σ' H' => ∃ B brefs H0 D0, σ' = [some (.ref a), some (.ref sa), some (.int ((W.length : Nat) : Int)), none, some (.ref Wd), some (.ref Gv), some (.ref B), none, none, none, none, none, none, none, none, none, none, none, none, none] ∧ Same H4 H' ∧ H' B = some (.lst brefs) ∧ Ea H' (isNl H0 D0) brefs W, ?_, ?_⟩
    · refine ⟨kG, _, rfl, Gv, rfl, ⟨_, hG⟩, fun Dd hD => ?_⟩
      refine lc_acc (xs := grefs) (walk_k (k := kG)) hgs hD (fun H' s' => hG.up s') (fun i acc H' => Ea H' (isNl H4 Dd) acc (W.take i)) (fun i acc H' e => by rw [e.1, List.length_take]; omega) (by rw [List.take_zero]; exact Ea.nil) (fun i x H' acc Φ Ψ hi hx sm hd he kf => ?_) fun H5 acc s5 hd he => ?_
      · refine ⟨rfl, ?_⟩
        dsimp only [tYes]
        rw [if_pos rfl]
        exact ⟨_, rfl, cpy hD (fun _ _ e => e) i x H' acc _ hx sm hd he fun y H6 s6 h6 hb => kf y H6 s6 h6 fun H7 h7 b1 b2 => hb H7 b1⟩
      · rw [hlg, List.take_length] at he
        exact ⟨Dd, acc, H4, Dd, rfl, s5, hd, he⟩
    rintro _ H5 ⟨B, brefs, H0, D0, rfl, s45, hB5, hEB5⟩
    -- the rule
    refine ⟨_, rfl, Gv, grefs, W.map encW, rfl, (hG.up s45).sq, hEQ.imp (fun c r q => q.imp (fun q => s45 _ _ q) fun q => s45 _ _ q), by rw [List.length_map]; omega, fun q hq => ?_, .inl ⟨W, rfl, o, fun p H6 s56 hp6 => ?_⟩⟩
    · obtain ⟨s, hs, rfl⟩ := List.mem_map.mp hq
      exact ⟨.int _, .str _⟩
    have s46 := s45.trans s56
    have hB6 := s56 _ _ hB5
    have hEB6 : Ea H6 (isNl H0 D0) brefs W := hEB5.imp fun c r z => ⟨z.1, z.2.1, s56 _ _ z.2.2⟩
    clear hB5 hEB5
    obtain ⟨d6, R6, St6, refs6, hpo6, _⟩ := id hp6
    refine ⟨fun σ' H' => σ' = [some (.ref a), some (.ref sa), some (.int ((W.length : Nat) : Int)), none, some (.ref Wd), some (.ref Gv), some (.ref B), some (.ref p), none, none, none, none, none, none, none, none, none, none, none, none] ∧ Same H6 H', ?_, ?_⟩
    · refine ⟨kG, _, rfl, Gv, rfl, ⟨_, hG.up s46⟩, fun Dd hD => ?_⟩
      refine lc_acc (xs := grefs) (walk_k (k := kG)) hgs hD (fun H' s' => (hG.up s46).up s') (fun i acc H' => Ea H' (isNl H6 Dd) acc (W.take i)) (fun i acc H' e => by rw [e.1, List.length_take]; omega) (by rw [List.take_zero]; exact Ea.nil) (fun i x H' acc Φ Ψ hi hx sm hd he kf => ?_) fun H7 acc s7 hd he => ?_
      · refine ⟨rfl, ?_⟩
        dsimp only [tYes]
        rw [if_pos rfl]
        exact ⟨_, rfl, cpy hD s46 i x H' acc _ hx sm hd he fun y H8 s8 h8 hb => kf y H8 s8 h8 fun H9 h9 b1 b2 => hb H9 b1⟩
      · rw [hlg, List.take_length] at he
        refine ⟨_, rfl, .list (W.map wd), .list (W.map wd), .lst (SqL.of hd) (wds_dp he), .lst (SqL.of (s7 _ _ hB6)) (wds_dp (H0 := H0) (D := D0) (hEB6.imp fun c r z => ⟨z.1, z.2.1, s7 _ _ z.2.2⟩)), wds_shaped W, wds_shaped W, _, rfl, ?_⟩
        rw [wds_eqv]
        refine iteF ?_
        exact ⟨_, rfl, p, C, d6, _, _, rfl, s7 _ _ hpo6, T.cl, T.nM, rf_marks _ _ _, _, rfl, rfl, _, rfl, ifNo rfl ⟨rfl, s7⟩⟩
    rintro _ H7 ⟨rfl, s67⟩
    have s47 := s46.trans s67
    have S7 := S4.same s47
    have hp7 : MRule K C H7 p W := RuleAt.same hp6 s67
    have hWd7 := s47 _ _ hWd4
    have hE7 : Ea H7 isWr wrefs W := hE4.imp fun c r q => s47 _ _ q
    clear hE4 hWd4 hB6 hEB6 s46 s56 hpo6 cpy hEQ hG hp6 S4 s47 s67 s45
    have g := mgood o
    have gl := g.lf
    -- least, and the spoilt table
    refine ⟨fun σ' H' => ∃ k8, σ' = [some (.ref a), some (.ref sa), some (.int ((W.length : Nat) : Int)), none, some (.ref Wd), some (.ref Gv), some (.ref B), some (.ref p), none, none, none, none, none, none, none, none, none, none, none, none] ∧ StreamAt H' sa sl k8 ∧ k8 ≤ 200 ∧ Keep sa sl H7 H', ?_, ?_⟩
    · have w1 := LF.lf_len (rows := MK.mrows W) (starts := List.range (W.length * W.length))
      have w2 := Nat.mul_le_mul h4 h4
      refine ⟨_, rfl, p, _, _, (W.length : Int), rfl, hp7, gl.ok, gl.so, gl.most, by rw [w1, List.length_range]; omega, LF.ord_lf g.ok g.so, LF.lf_apart g.ok g.so, fun H8 s8 => ⟨_, rfl, iteF ?_⟩⟩
      exact ⟨_, rfl, _, rfl, sa, sl, Wd, k4, wrefs, W, rfl, S7.same s8, by omega, s8 _ _ hWd7, Wa, Wl, hE7.imp (fun c r q => s8 _ _ q), o, fun k9 H9 S9 hk9 kp9 => ⟨_, rfl, iteF ⟨k9, rfl, S9, by omega, (Keep.of s8).trans kp9⟩⟩⟩
    rintro _ H8 ⟨k8, rfl, S8, hk8, kp8⟩
    have hp8 : MRule K C H8 p W := RuleAt.kp hp7 S7 kp8
    have hWd8 := kp8 _ _ Wa Wl hWd7
    have hE8 : Ea H8 isWr wrefs W := hE7.imp fun c r q => tup_kp q S7 kp8
    clear hp7 hWd7 hE7 S7 kp8
    -- what was made
    obtain ⟨d8, R, St, refs, hpo8, hR8, hEr8, hSt8⟩ := id hp8
    refine ⟨fun σ' H' => ∃ t, σ' = [some (.ref a), some (.ref sa), some (.int ((W.length : Nat) : Int)), none, some (.ref Wd), some (.ref Gv), some (.ref B), some (.ref p), some (.ref t), none, none, none, none, none, none, none, none, none, none, none] ∧ Same H8 H' ∧ H' t = some (.tup [.ref R, .ref St, .int ((W.length : Nat) : Int)]), ?_, ?_⟩
    · exact ⟨_, rfl, p, C, d8, _, _, rfl, hpo8, T.cl, T.nR, rf_rows _ _ _, _, rfl, p, C, d8, _, _, rfl, hpo8, T.cl, T.nS, rf_starts _ _ _, _, rfl, p, C, d8, _, _, rfl, hpo8, T.cl, T.nM, rf_marks _ _ _, by show 3 ≤ sizeLine; decide, fun t ht => ⟨t, rfl, new_ ht, upd_same⟩⟩
    rintro _ H9 ⟨t, rfl, s9, ht9⟩
    have S9 := S8.same s9
    have hWd9 := s9 _ _ hWd8
    have hE9 : Ea H9 isWr wrefs W := hE8.imp fun c r q => s9 _ _ q
    have hR9 := s9 _ _ hR8
    have hEr9 := hEr8.sameT s9
    have hSt9 := SqT.up hSt8 s9
    clear hWd8 hE8 hR8 hEr8 hSt8 S8 hp8 hpo8 s9
    -- the marks
    refine ⟨fun σ' H' => ∃ Ml mk k10, σ' = [some (.ref a), some (.ref sa), some (.int ((W.length : Nat) : Int)), none, some (.ref Wd), some (.ref Gv), some (.ref B), some (.ref p), some (.ref t), some (.ref Ml), none, none, none, none, none, none, none, none, none, none] ∧ StreamAt H' sa sl k10 ∧ k10 ≤ 300 ∧ Keep sa sl H9 H' ∧ H' Ml = some (.lst (natsV mk)) ∧ Ml ≠ sa ∧ Ml ≠ sl ∧ 2 ≤ mk.length ∧ mk.length ≤ 7 ∧ ∀ x ∈ mk, x < W.length, ?_, ?_⟩
    · refine ⟨_, rfl, sa, sl, _, 6, rfl, S9, by omega, by decide, e24 (by decide) (by decide), fun r HA r0 r1 SA kpA => ⟨_, _, rfl, rfl, (2 + r), rfl, by omega, by omega, fun Dd hD => ?_⟩⟩
      obtain ⟨Da, Dl⟩ := SA.ne hD
      refine lc_range (n := (2 + r).toNat) (fun j H' => StreamAt H' sa sl (k8 + 1 + j) ∧ Keep sa sl H9 H' ∧ ∃ mk, H' Dd = some (.lst (natsV mk)) ∧ mk.length = j ∧ ∀ x ∈ mk, x < W.length) ⟨SA.same (new_ hD), kpA.trans (Keep.of (new_ hD)), [], upd_same, rfl, fun z hz => (List.not_mem_nil hz).elim⟩ ?_ ?_
      · rintro j HB hj ⟨SB, kpB, mk, hd, hl, hm⟩
        refine ⟨rfl, ?_⟩
        dsimp only [tYes]
        rw [if_pos rfl]
        refine ⟨_, rfl, _, rfl, sa, sl, _, ((W.length : Nat) : Int), rfl, SB, by omega, by omega, e24 (by omega) (by omega), fun z HC z0 z1 SC kpC => ?_⟩
        have hdC := kpC _ _ Da Dl hd
        have hz : z = ((z.toNat : Nat) : Int) := (Int.toNat_of_nonneg z0).symm
        refine ⟨_, hdC, by rw [natsV_len, hl]; exact Nat.lt_of_lt_of_le (by omega : j < 10) (by decide), (SC.lst hdC Da Dl).at_ (by omega), ?_, mk ++ [z.toNat], ?_, by rw [List.length_append, hl]; rfl, ?_⟩
        · intro c ob ca cl e
          have cD : c ≠ Dd := by
            rintro rfl
            have := kpA _ _ ca cl e
            rw [hD] at this
            cases this
          rw [upd_ne cD]
          exact kpC _ _ ca cl (kpB _ _ ca cl e)
        · rw [upd_same, ← natsV_snoc, ← hz]
        · intro y hy
          rcases List.mem_append.mp hy with hy | hy
          · exact hm y hy
          · rw [List.mem_singleton.mp hy]
            omega
      · rintro HB ⟨SB, kpB, mk, hd, hl, hm⟩
        exact ⟨Dd, mk, _, rfl, SB, by omega, kpB, hd, Da, Dl, by omega, by omega, hm⟩
    rintro _ HA ⟨Ml, mk, kA, rfl, SA, hkA, kpA, hMA, Ma, Mll, m2, m7, hmk⟩
    have hml : (natsV mk).length = mk.length := natsV_len _
    -- the calls and the lists
    refine ⟨_, rfl, _, rfl, Ml, _, rfl, .inl (SqL.of hMA), ?_⟩
    rw [hml]
    refine ⟨sa, sl, kA, _, _, rfl, SA, by omega, by omega, by omega, by decide, by decide, fun Cl zs kB HB hCB _ Ca Cll hzl hzb SB _ kpB => ?_⟩
    obtain ⟨cs, rfl⟩ : ∃ cs : List Nat, zs = cs.map fun (n : Nat) => ((n : Nat) : Int) := ⟨zs.map Int.toNat, by
      rw [List.map_map]
      exact (List.map_id zs).symm.trans (List.map_congr_left fun z hz => (Int.toNat_of_nonneg (hzb z hz).1).symm)⟩
    rw [← natsV_ints] at hCB
    rw [List.length_map] at hzl
    have hcs : ∀ c ∈ cs, c < mk.length := fun c hc => by
      have := (hzb (c : Int) (List.mem_map.mpr ⟨c, hc, rfl⟩)).2
      omega
    have kp9B := kpA.trans kpB
    have htB := tup_kp ht9 S9 kp9B
    have hRB := tup_kp hR9 S9 kp9B
    have hErB : Each HB isT refs ((LF.lf (MK.mrows W) (List.range (W.length * W.length))).1.map rz) := hEr9.imp fun c r q => tup_kp q S9 kp9B
    have hStB := SqT.kp hSt9 S9 kp9B
    have hWdB := kp9B _ _ Wa Wl hWd9
    have hEB : Ea HB isWr wrefs W := hE9.imp fun c r q => tup_kp q S9 kp9B
    have hMB := kpB _ _ Ma Mll hMA
    clear hWd9 hE9 hR9 hEr9 hSt9 S9 ht9 SA SB kpA kpB kp9B hMA hzb
    refine ⟨fun σ' H' => ∃ Li lrefs, σ' = [some (.ref a), some (.ref sa), some (.int ((W.length : Nat) : Int)), none, some (.ref Wd), some (.ref Gv), some (.ref B), some (.ref p), some (.ref t), some (.ref Ml), some (.ref Cl), some (.ref Li), none, none, none, none, none, none, none, none] ∧ Same HB H' ∧ H' Li = some (.lst lrefs) ∧ Ea H' (isO []) lrefs ((List.range cs.length).map fun i => (MK.rns W mk cs (i + 1)).1), ?_, ?_⟩
    · exact ⟨_, rfl, _, rfl, _, rfl, Wd, Ml, Cl, wrefs, W, mk, cs, rfl, hWdB, hEB, o, hMB, hCB, hmk, hcs, by omega, by omega, fun Li lrefs H' s' h1 h2 => ⟨Li, lrefs, rfl, s', h1, h2⟩⟩
    rintro _ HC ⟨Li, lrefs, rfl, sC, hLi, hEL⟩
    have htC := sC _ _ htB
    have hRC := sC _ _ hRB
    have hErC := hErB.sameT sC
    have hStC := SqT.up hStB sC
    have hMC := sC _ _ hMB
    have hCC := sC _ _ hCB
    clear htB hRB hErB hStB hMB hCB hWdB hEB sC
    have hcl : (natsV cs).length = cs.length := natsV_len _
    have hstl : natsV (LF.lf (MK.mrows W) (List.range (W.length * W.length))).2 = (stZ (LF.lf (MK.mrows W) (List.range (W.length * W.length))).2).map V.int := natsV_ints _
    have hlr : refs.length = (LF.lf (MK.mrows W) (List.range (W.length * W.length))).1.length := by have := hErC.1; rwa [List.length_map] at this
    have side : SideAt K HC R (LF.lf (MK.mrows W) (List.range (W.length * W.length))).1 := ⟨.t, refs, SqT.of hRC, .t, hlr, fun i x r hx hr => by
      obtain ⟨c, hc, q⟩ := hErC.2 i x (rz r) hx (by rw [List.getElem?_map, hr]; rfl)
      exact ⟨c, hc, SqT.of q⟩⟩
    rw [← hstl] at hStC
    -- for each two cases
    refine ⟨_, rfl, Ml, _, rfl, .inl (SqL.of hMC), ?_⟩
    rw [hml]
    refine ⟨_, rfl, by omega, by omega, ?_⟩
    refine for_range (n := (((mk.length : Nat) : Int)).toNat) (fun i σ' H' => ∃ x3 x12 x13 x14 x15 x16 x17 x18, σ' = [some (.ref a), some (.ref sa), some (.int ((W.length : Nat) : Int)), x3, some (.ref Wd), some (.ref Gv), some (.ref B), some (.ref p), some (.ref t), some (.ref Ml), some (.ref Cl), some (.ref Li), x12, x13, x14, x15, x16, x17, x18, none] ∧ Same HC H') ?_ ?_ ?_
    · exact ⟨none, none, none, none, none, none, none, none, rfl, fun _ _ e => e⟩
    · rintro lo _ HD hlo ⟨x3, x12, x13, x14, x15, x16, x17, x18, rfl, sD⟩
      have hlo' : lo < mk.length := by omega
      rw [Int.zero_add]
      refine ⟨_, rfl, _, _, rfl, rfl, _, rfl, Ml, _, rfl, .inl (SqL.of (sD _ _ hMC)), ?_⟩
      rw [hml]
      refine ⟨((lo : Int) + 1), ((mk.length : Nat) : Int), rfl, ⟨by omega, by omega, by omega, by omega⟩, ?_⟩
      refine for_range (n := (((mk.length : Nat) : Int) - ((lo : Int) + 1)).toNat) (fun i σ' H' => ∃ x3 x13 x14 x15 x16 x17 x18, σ' = [some (.ref a), some (.ref sa), some (.int ((W.length : Nat) : Int)), x3, some (.ref Wd), some (.ref Gv), some (.ref B), some (.ref p), some (.ref t), some (.ref Ml), some (.ref Cl), some (.ref Li), some (.int (lo : Int)), x13, x14, x15, x16, x17, x18, none] ∧ Same HC H') ?_ ?_ ?_
      · exact ⟨_, _, _, _, _, _, _, rfl, sD⟩
      · clear sD
        rintro j _ HD hj ⟨x3, x13, x14, x15, x16, x17, x18, rfl, sD⟩
        obtain ⟨hi, ehi⟩ : ∃ hi : Nat, hi = lo + 1 + j := ⟨_, rfl⟩
        have eh : ((lo : Int) + 1 + (j : Int)) = (hi : Int) := by omega
        rw [eh]
        have hhi : hi < mk.length := by omega
        have lh : lo < hi := by omega
        -- the calls of the two
        refine ⟨fun σ' H' => ∃ Mi, σ' = [some (.ref a), some (.ref sa), some (.int ((W.length : Nat) : Int)), x3, some (.ref Wd), some (.ref Gv), some (.ref B), some (.ref p), some (.ref t), some (.ref Ml), some (.ref Cl), some (.ref Li), some (.int (lo : Int)), some (.int (hi : Int)), some (.ref Mi), x15, x16, x17, x18, none] ∧ Same HC H' ∧ H' Mi = some (.lst (natsV (MK.mine cs lo hi cs.length))), ?_, ?_⟩
        · refine ⟨_, rfl, Cl, _, rfl, .inl (SqL.of (sD _ _ hCC)), ?_⟩
          rw [hcl]
          refine ⟨_, rfl, by omega, by omega, fun Dd hD => ?_⟩
          refine lc_range (n := (((cs.length : Nat) : Int)).toNat) (fun k H' => Same HD H' ∧ H' Dd = some (.lst (natsV (MK.mine cs lo hi k)))) ⟨new_ hD, upd_same⟩ ?_ ?_
          · rintro k HE hk ⟨sE, hd⟩
            have hk' : k < cs.length := by omega
            rw [Int.zero_add]
            refine ⟨rfl, ?_⟩
            have hck := List.getElem?_eq_getElem hk'
            generalize cs[k] = c at hck
            have ms := MK.mine_succ cs lo hi k
            rw [hck] at ms
            refine ⟨_, rfl, _, rfl, Cl, _, (k : Int), .int (c : Int), rfl, rfl, SqL.of (sE _ _ (sD _ _ hCC)), atI_nat (by unfold natsV; rw [List.getElem?_map, hck]; rfl), _, rfl, _, rfl, by show 2 ≤ sizeLine; decide, fun tp htp => ⟨tp, _, rfl, .inr (SqT.of upd_same), rfl, rfl, _, rfl, ?_⟩⟩
            show ite (inV (V.int (c : Int)) [V.int (lo : Int), .int (hi : Int)] = true) _ _
            rw [in_two]
            have st := new_ (o := .tup [V.int (lo : Int), .int (hi : Int)]) htp
            have hdE := st _ _ hd
            have sE2 := sE.trans st
            by_cases hin : (decide (c = lo) || decide (c = hi)) = true
            · have ms' : MK.mine cs lo hi (k + 1) = MK.mine cs lo hi k ++ [k] := by
                rw [ms, if_pos (by simpa using hin)]
              rw [if_pos hin]
              refine ⟨_, rfl, _, hdE, ?_, ?_, ?_⟩
              · rw [natsV_len]
                have : (MK.mine cs lo hi k).length ≤ k := by
                  unfold MK.mine
                  exact Nat.le_trans (List.length_filter_le _ _) (by rw [List.length_range]; exact Nat.le_refl _)
                exact Nat.lt_of_le_of_lt (by omega : _ ≤ 20) (by decide)
              · intro d ob e
                rw [upd_ne (ne_of_none e hD)]
                exact sE2 _ _ e
              · rw [upd_same, ms', natsV_snoc]
            · have ms' : MK.mine cs lo hi (k + 1) = MK.mine cs lo hi k := by
                rw [ms, if_neg (by simpa using hin), List.append_nil]
              rw [if_neg hin, ms']
              exact ⟨sE2, hdE⟩
          · rintro HE ⟨sE, hd⟩
            exact ⟨Dd, rfl, sD.trans sE, hd⟩
        clear sD
        rintro _ HD ⟨Mi, rfl, sD, hMi⟩
        have mlt : ∀ k ∈ MK.mine cs lo hi cs.length, k < cs.length := fun k hk => by
          unfold MK.mine at hk
          exact List.mem_range.mp (List.mem_filter.mp hk).1
        have mle : (MK.mine cs lo hi cs.length).length ≤ 20 := by
          unfold MK.mine
          exact Nat.le_trans (List.length_filter_le _ _) (by rw [List.length_range]; omega)
        -- whether the second one is called
        refine ⟨fun σ' H' => ∃ Ow, σ' = [some (.ref a), some (.ref sa), some (.int ((W.length : Nat) : Int)), x3, some (.ref Wd), some (.ref Gv), some (.ref B), some (.ref p), some (.ref t), some (.ref Ml), some (.ref Cl), some (.ref Li), some (.int (lo : Int)), some (.int (hi : Int)), some (.ref Mi), some (.ref Ow), x16, x17, x18, none] ∧ Same HD H' ∧ H' Ow = some (.lst ((MK.own cs lo hi cs.length).map bitV)), ?_, ?_⟩
        · refine ⟨_, rfl, Mi, rfl, ⟨_, SqL.of hMi⟩, fun Dd hD => ?_⟩
          refine lc_same (xs := natsV (MK.mine cs lo hi cs.length)) (walk_l (K := K) (a := Mi) (xs := natsV (MK.mine cs lo hi cs.length))) (by rw [natsV_len]; exact Nat.le_trans mle (by decide)) hD (fun H' s' => SqL.of (s' _ _ hMi)) ((MK.own cs lo hi cs.length).map bitV) (by rw [natsV_len, List.length_map]; unfold MK.own; rw [List.length_map]) (fun i x y H' Φ Ψ hx hy sm kf => ?_) fun HE sE hd => ?_
          · unfold natsV at hx
            rw [List.getElem?_map, Option.map_eq_some_iff] at hx
            obtain ⟨k, hk, rfl⟩ := hx
            unfold MK.own at hy
            rw [List.getElem?_map, List.getElem?_map, hk] at hy
            have hk' := mlt k (List.mem_of_getElem? hk)
            have hck := List.getElem?_eq_getElem hk'
            generalize cs[k] = c at hck
            have hy' : y = bitV (decide (c = hi)) := by
              have := Option.some.inj hy
              rw [← this]
              show bitV (decide (cs[k]? = some hi)) = _
              rw [hck]
              simp
            refine ⟨rfl, ?_⟩
            dsimp only [tYes]
            rw [if_pos rfl]
            refine ⟨_, rfl, _, rfl, Cl, _, (k : Int), .int (c : Int), rfl, rfl, SqL.of (sm _ _ (sD _ _ hCC)), atI_nat (by unfold natsV; rw [List.getElem?_map, hck]; rfl), _, rfl, rfl, .inr ⟨_, rfl, ?_⟩⟩
            have ev : V.int (if decide (V.int (c : Int) = V.int (hi : Int)) = true then 1 else 0) = y := by
              rw [hy']
              by_cases h : c = hi
              · subst h
                simp [bitV]
              · have : ¬ (V.int (c : Int) = V.int (hi : Int)) := fun z => h (by injection z with z; omega)
                simp [bitV, h]
                omega
            rw [ev]
            exact kf H' fun _ _ e => e
          · exact ⟨Dd, rfl, sE, hd⟩
        rintro _ HE ⟨Ow, rfl, sE, hOw⟩
        have sCE := sD.trans sE
        have hMi2 := sE _ _ hMi
        obtain ⟨s0, hs0, hsl, hrun⟩ := pair_eq o hmk hcs hhi lh
        have mat : ∀ {x : Nat}, x < mk.length → atI (natsV mk) (x : Int) = some (.int ((mk.getD x 0 : Nat) : Int)) := fun {x} h => atI_nat (by
          unfold natsV
          rw [List.getElem?_map, List.getD_eq_getElem?_getD, List.getElem?_eq_getElem h]
          rfl)
        have mlen : ∀ {x : Nat}, x < mk.length → mk.getD x 0 ≤ 10 := fun {x} h => by
          have : mk.getD x 0 ∈ mk := by
            rw [List.getD_eq_getElem?_getD, List.getElem?_eq_getElem h]
            exact List.getElem_mem h
          have := hmk _ this
          omega
        refine ⟨_, rfl, _, rfl, _, rfl, Ml, _, (lo : Int), _, rfl, rfl, SqL.of (sCE _ _ hMC), mat hlo', _, rfl, _, rfl, Ml, _, (hi : Int), _, rfl, rfl, SqL.of (sCE _ _ hMC), mat hhi, _, rfl, t, R, St, Ow, _, _, mk.getD lo 0, mk.getD hi 0, W.length, s0, MK.own cs lo hi cs.length, rfl, sCE _ _ htC, side.same sCE, SqT.up hStC sCE, gl.ok, gl.most, mlen hlo', h4, mlen hhi, hs0, hsl, hOw, by unfold MK.own; rw [List.length_map]; omega, fun Tu HF sF hTu => ?_⟩
        rw [hrun] at hTu
        have sCF := sCE.trans sF
        have hMi3 := sF _ _ hMi2
        -- the same one is ahead
        refine ⟨_, rfl, .l, Mi, natsV (MK.mine cs lo hi cs.length), rfl, SqL.of hMi3, ?_⟩
        refine for_it (walk_e (K := K) (k := .l) (a := Mi) (xs := natsV (MK.mine cs lo hi cs.length))) (fun i σ' H' => ∃ x3 x17 x18, σ' = [some (.ref a), some (.ref sa), some (.int ((W.length : Nat) : Int)), x3, some (.ref Wd), some (.ref Gv), some (.ref B), some (.ref p), some (.ref t), some (.ref Ml), some (.ref Cl), some (.ref Li), some (.int (lo : Int)), some (.int (hi : Int)), some (.ref Mi), some (.ref Ow), some (.ref Tu), x17, x18, none] ∧ Same HF H') ?_ ?_ ?_ ?_
        · exact ⟨_, _, _, rfl, fun _ _ e => e⟩
        · rintro i σ' H' _ ⟨_, _, _, _, s'⟩
          exact SqL.of (s' _ _ hMi3)
        · rintro i x _ HG _ hi2 ⟨y3, y17, y18, rfl, sG⟩ ⟨tp, a1, b1, rfl, htp, rfl, z1, z2⟩
          dsimp only at z1 z2
          cases z1
          unfold natsV at z2
          rw [List.getElem?_map, Option.map_eq_some_iff] at z2
          obtain ⟨k, hk, rfl⟩ := z2
          have hk' := mlt k (List.mem_of_getElem? hk)
          have st := new_ (o := .tup [.int (i : Int), .int (k : Int)]) htp
          refine ⟨tp, _, rfl, SqT.of upd_same, rfl, _, _, rfl, _, _, rfl, rfl, ?_⟩
          have sH := sG.trans st
          generalize (upd HG tp (.tup [.int (i : Int), .int (k : Int)])) = HH at sH ⊢
          have sCH := sCF.trans sH
          have ro := MK.rns_ok o hmk hcs (k + 1)
          obtain ⟨lc, hlc, hlo2⟩ := hEL.get (i := k) (r := (MK.rns W mk cs (k + 1)).1) (by rw [List.getElem?_map, List.getElem?_range hk']; rfl)
          have hl2 := sCH _ _ hlo2.2
          have hL2 := SqL.of (K := K) (sCH _ _ hLi)
          obtain ⟨i1, i2, i3⟩ := idx3 ((ro.mem hi).mpr hhi) ro.nd
          obtain ⟨j1, j2, j3⟩ := idx3 ((ro.mem lo).mpr hlo') ro.nd
          refine ⟨_, rfl, _, rfl, Li, lrefs, (k : Int), .ref lc, rfl, rfl, hL2, atI_nat hlc, .inl ⟨rfl, _, SqL.of hl2⟩, _, rfl, lc, _, .int (hi : Int), _, .int (hi : Int), rfl, rfl, SqL.of hl2, rfl, natsV_flat _, i1, i2, i3, ?_⟩
          refine ⟨_, rfl, _, rfl, Li, lrefs, (k : Int), .ref lc, rfl, rfl, hL2, atI_nat hlc, .inl ⟨rfl, _, SqL.of hl2⟩, _, rfl, lc, _, .int (lo : Int), _, .int (lo : Int), rfl, rfl, SqL.of hl2, rfl, natsV_flat _, j1, j2, j3, ?_⟩
          refine ⟨_, _, rfl, rfl, ?_⟩
          have hTk : atI (((MK.mine cs lo hi cs.length).map fun k => MK.ahd (MK.rns W mk cs (k + 1)).1 hi lo).map V.bl) (i : Int) = some (.bl (MK.ahd (MK.rns W mk cs (k + 1)).1 hi lo)) := atI_nat (by rw [List.getElem?_map, List.getElem?_map, hk]; rfl)
          refine ⟨_, rfl, _, rfl, Tu, _, (i : Int), _, rfl, rfl, SqL.of (sH _ _ hTu), hTk, _, rfl, rfl, _, rfl, ?_⟩
          have eb : MK.ahd (MK.rns W mk cs (k + 1)).1 hi lo = decide (((LF.ix (MK.rns W mk cs (k + 1)).1 hi : Nat) : Int) < ((LF.ix (MK.rns W mk cs (k + 1)).1 lo : Nat) : Int)) := by
            unfold MK.ahd
            rw [Bool.eq_iff_iff, decide_eq_true_iff, decide_eq_true_iff]
            omega
          rw [eb]
          refine ifNo rfl ?_
          exact ⟨_, _, _, rfl, sH⟩
        · rintro σ' HG ⟨y3, y17, y18, rfl, sG⟩
          exact ⟨_, _, _, _, _, _, _, rfl, sCF.trans sG⟩
      · rintro _ HD2 ⟨x3, x13, x14, x15, x16, x17, x18, rfl, sD⟩
        exact ⟨_, _, _, _, _, _, _, _, rfl, sD⟩
    · rintro _ HD ⟨x3, x12, x13, x14, x15, x16, x17, x18, rfl, sD⟩
      exact kk HD
end
end PA

set_option maxHeartbeats 8000000
namespace PA
open PySem L2 RZ
theorem kit_self {K : PySem.W.Frag} {C : Addr} : PySem.W.kitOne K (.ref C) (.ref C) = some true := by
  unfold PySem.W.kitOne
  rw [if_pos (by simp)]
theorem kit_2 {K : PySem.W.Frag} {C D : Addr} (h1 : (Value.ref D == Value.ref C) = false) (h2 : PySem.W.isClsIn K C = true) (h3 : PySem.W.typeIn K (.ref C) = some (.type "type")) (h4 : PySem.W.subIn K (.ref D) (.ref C) = some false) : PySem.W.kitOne K (.ref D) (.ref C) = some false := by
  have e2 : ((PySem.W.clsIn K C).isSome && PySem.W.typeIn K (.ref C) == some (.type "type")) = true := by
    have h2' : (PySem.W.clsIn K C).isSome = true := h2
    rw [h2', h3] <;> rfl
  unfold PySem.W.kitOne
  rw [h1, if_neg (by simp)]
  show (if ((PySem.W.clsIn K C).isSome && PySem.W.typeIn K (.ref C) == some (.type "type")) = true then PySem.W.subIn K (.ref D) (.ref C) else none) = some false
  rw [if_pos e2]
  exact h4
theorem exm_2 {K : PySem.W.Frag} {S P : Addr} (h1 : PySem.W.subIn K (.ref P) (.type "BaseException") = some true) (h2 : PySem.W.isClsIn K P = true) (h3 : PySem.W.typeIn K (.ref P) = some (.type "type")) (h4 : PySem.W.subIn K (.ref S) (.ref P) = some true) :
    PySem.W.exmOne K (.ref S) (.ref P) = some true := by
  have e2 : ((PySem.W.clsIn K P).isSome && PySem.W.typeIn K (.ref P) == some (.type "type")) = true := by
    have h2' : (PySem.W.clsIn K P).isSome = true := h2
    rw [h2', h3] <;> rfl
  unfold PySem.W.exmOne
  rw [h1, if_pos (by simp)]
  show (if ((PySem.W.clsIn K P).isSome && PySem.W.typeIn K (.ref P) == some (.type "type")) = true then PySem.W.subIn K (.ref S) (.ref P) else none) = some true
  rw [if_pos e2]
  exact h4
theorem kit_cls {K : PySem.W.Frag} {C : Addr} {t : String} (h2 : PySem.W.isClsIn K C = true) (h3 : PySem.W.typeIn K (.ref C) = some (.type "type")) (h4 : PySem.W.subIn K (.type t) (.ref C) = some false) : PySem.W.kitOne K (.type t) (.ref C) = some false := by
  have e2 : ((PySem.W.clsIn K C).isSome && PySem.W.typeIn K (.ref C) == some (.type "type")) = true := by
    have h2' : (PySem.W.clsIn K C).isSome = true := h2
    rw [h2', h3] <;> rfl
  unfold PySem.W.kitOne
  rw [if_neg (by simp)]
  show (if ((PySem.W.clsIn K C).isSome && PySem.W.typeIn K (.ref C) == some (.type "type")) = true then PySem.W.subIn K (.type t) (.ref C) else none) = some false
  rw [if_pos e2]
  exact h4
theorem bI2_of {K : PySem.W.Frag} {f dd : Addr} {fd : FuncData} (F : FunI K f fd dd) : Binds K fd ["self", "rows", "starts"] [] := by
  obtain ⟨ds, hv, hb⟩ := F.binds1 (ps := ["self", "rows", "starts"]) 3 1 (by simp) rfl (fun T kV doc pm an cdv ct us its h1 h2 => match us, h1, its, h2 with | [_, _, _], _, [_], _ => ⟨_, rfl, rfl⟩)
  cases hv
  exact hb
theorem all_mk {l : PySem.W.OpenLaw} {w : World} {K : PySem.W.Frag} {h : Heap} {mg : Str → Option Value} {fa C TT DD gCI DM DP X gLeast gisInt gbelow gisRow gcheck gm1 gm2 gm3 glf1 glf2 glf3 glf4 glf5 glf6 glf7 gmkd gdraw gstart gpick ghdd_ gaft gunl gvis glst gcalls gpair glists grefused gLaw : Addr} (X_ : K.In h) (G : h.Ns mainGlobals mg) (hfa : mg "law" = some (.ref fa))
    {oT : Value} {odT : Option Addr} {mT : Nat} {slT : Array (Option Value)} {odD : Option Addr} {tkD : Tok} {mD : Nat} {slD : Array (Option Value)} {ocCI kVCI dcCI pmCI cdCI ctCI : Value} {odCI anCI : Option Addr} {slCI : Array (Option Value)} {x1 x2 x3 x4 y1 y2 y3 y4 : Tok} {nM_ : Nat} {tkM : Tok} {tkMM : Tok} {odP : Option Addr} {tkP1 tkP2 tkP3 : Tok} {mP : Nat} {slP : Array (Option Value)} {ocLeast kVLeast dcLeast pmLeast cdLeast ctLeast : Value} {odLeast anLeast : Option Addr} {slLeast : Array (Option Value)} {ocisInt kVisInt dcisInt pmisInt cdisInt ctisInt : Value} {odisInt anisInt : Option Addr} {slisInt : Array (Option Value)} {ocbelow kVbelow dcbelow pmbelow cdbelow ctbelow : Value} {odbelow anbelow : Option Addr} {slbelow : Array (Option Value)} {ocisRow kVisRow dcisRow pmisRow cdisRow ctisRow : Value} {odisRow anisRow : Option Addr} {slisRow : Array (Option Value)} {occheck kVcheck dccheck pmcheck cdcheck ctcheck : Value} {odcheck ancheck : Option Addr} {slcheck : Array (Option Value)} {ocm1 kVm1 dcm1 pmm1 cdm1 ctm1 : Value} {odm1 anm1 : Option Addr} {slm1 : Array (Option Value)} {ocm2 kVm2 dcm2 pmm2 cdm2 ctm2 : Value} {odm2 anm2 : Option Addr} {slm2 : Array (Option Value)} {ocm3 kVm3 dcm3 pmm3 cdm3 ctm3 : Value} {odm3 anm3 : Option Addr} {slm3 : Array (Option Value)} {oclf1 kVlf1 dclf1 pmlf1 cdlf1 ctlf1 : Value} {odlf1 anlf1 : Option Addr} {sllf1 : Array (Option Value)} {oclf2 kVlf2 dclf2 pmlf2 cdlf2 ctlf2 : Value} {odlf2 anlf2 : Option Addr} {sllf2 : Array (Option Value)} {oclf3 kVlf3 dclf3 pmlf3 cdlf3 ctlf3 : Value} {odlf3 anlf3 : Option Addr} {sllf3 : Array (Option Value)} {oclf4 kVlf4 dclf4 pmlf4 cdlf4 ctlf4 : Value} {odlf4 anlf4 : Option Addr} {sllf4 : Array (Option Value)} {oclf5 kVlf5 dclf5 pmlf5 cdlf5 ctlf5 : Value} {odlf5 anlf5 : Option Addr} {sllf5 : Array (Option Value)} {oclf6 kVlf6 dclf6 pmlf6 cdlf6 ctlf6 : Value} {odlf6 anlf6 : Option Addr} {sllf6 : Array (Option Value)} {oclf7 kVlf7 dclf7 pmlf7 cdlf7 ctlf7 : Value} {odlf7 anlf7 : Option Addr} {sllf7 : Array (Option Value)} {ocmkd kVmkd dcmkd pmmkd cdmkd ctmkd : Value} {odmkd anmkd : Option Addr} {slmkd : Array (Option Value)} {ocdraw kVdraw dcdraw pmdraw cddraw ctdraw : Value} {oddraw andraw : Option Addr} {sldraw : Array (Option Value)} {ocstart kVstart dcstart pmstart cdstart ctstart : Value} {odstart anstart : Option Addr} {slstart : Array (Option Value)} {ocpick kVpick dcpick pmpick cdpick ctpick : Value} {odpick anpick : Option Addr} {slpick : Array (Option Value)} {ochdd_ kVhdd_ dchdd_ pmhdd_ cdhdd_ cthdd_ : Value} {odhdd_ anhdd_ : Option Addr} {slhdd_ : Array (Option Value)} {ocaft kVaft dcaft pmaft cdaft ctaft : Value} {odaft anaft : Option Addr} {slaft : Array (Option Value)} {ocunl kVunl dcunl pmunl cdunl ctunl : Value} {odunl anunl : Option Addr} {slunl : Array (Option Value)} {ocvis kVvis dcvis pmvis cdvis ctvis : Value} {odvis anvis : Option Addr} {slvis : Array (Option Value)} {oclst kVlst dclst pmlst cdlst ctlst : Value} {odlst anlst : Option Addr} {sllst : Array (Option Value)} {occalls kVcalls dccalls pmcalls cdcalls ctcalls : Value} {odcalls ancalls : Option Addr} {slcalls : Array (Option Value)} {ocpair kVpair dcpair pmpair cdpair ctpair : Value} {odpair anpair : Option Addr} {slpair : Array (Option Value)} {oclists kVlists dclists pmlists cdlists ctlists : Value} {odlists anlists : Option Addr} {sllists : Array (Option Value)} {ocrefused kVrefused dcrefused pmrefused cdrefused ctrefused : Value} {odrefused anrefused : Option Addr} {slrefused : Array (Option Value)} {ocLaw kVLaw dcLaw pmLaw cdLaw ctLaw : Value} {odLaw anLaw : Option Addr} {slLaw : Array (Option Value)}
    (aC : PySem.W.nsIn K mainGlobals "Rule" = some (some (.ref C)))
    (pgC : PySem.W.plainGet K C Str.empty = true)
    (hdC : PySem.W.hasDictIn K C = true)
    (poC : PySem.W.plainOver K C = true)
    (saC : PySem.W.findIn K (.ref C) "__setattr__" = some (some (.builtin "object.__setattr__")))
    (kcC : PySem.W.keepIn K (.ref C) = true)
    (mkC : PySem.W.makesIn K C = true)
    (nCrows : PySem.W.findIn K (.ref C) "rows" = some none)
    (nCstarts : PySem.W.findIn K (.ref C) "starts" = some none)
    (nCmarks : PySem.W.findIn K (.ref C) "marks" = some none)
    (aCI : PySem.W.findIn K (.ref C) "__init__" = some (some (.ref gCI)))
    (lCI : K.lookup gCI = some ⟨ocCI, odCI, .func (PySem.W.fnOf "__init__" "Rule.__init__" (defArgs sInit) (defBody sInit) (defScope sInit) (.ref TT) kVCI dcCI pmCI anCI cdCI ctCI), slCI⟩)
    (cCI : PySem.W.codeIn K cdCI "Rule.__init__" = true)
    (kCI : PySem.W.keepIn K (.ref gCI) = true)
    (iCI : PySem.W.isFn K (.ref gCI) = true)
    (lT : K.lookup TT = some ⟨oT, odT, .seq #[.ref DD] mT, slT⟩)
    (lD : K.lookup DD = some ⟨.type "tuple", odD, .seq #[.int 0 tkD] mD, slD⟩)
    (aM : PySem.W.nsIn K mainGlobals "MARKS_OF_STARTS" = some (some (.ref DM)))
    (lM : K.lookup DM = some ⟨.type "dict", none, .dict #[⟨1, .int 1 x1, .int 1 y1⟩, ⟨4, .int 4 x2, .int 2 y2⟩, ⟨9, .int 9 x3, .int 3 y3⟩, ⟨16, .int 16 x4, .int 4 y4⟩] nM_, #[]⟩)
    (lw : (DM == sysModules) = false)
    (aMost : PySem.W.nsIn K mainGlobals "MOST_ROWS" = some (some (.int 48 tkM)))
    (aMM : PySem.W.nsIn K mainGlobals "MOST_MARKS" = some (some (.int 4 tkMM)))
    (aP : PySem.W.nsIn K mainGlobals "MOVES" = some (some (.ref DP)))
    (lP : K.lookup DP = some ⟨.type "tuple", odP, .seq #[.str "front" tkP1, .str "back" tkP2, .str "keep" tkP3] mP, slP⟩)
    (aX : PySem.W.nsIn K mainGlobals "InvalidRule" = some (some (.ref X)))
    (xX : PySem.W.excIn K X [.type "ValueError", .type "Exception", .type "BaseException", .type "object"] "ValueError.__new__" = true)
    (kX : PySem.W.keepIn K (.ref X) = true)
    (bX : PySem.W.subIn K (.ref X) (.type "BaseException") = some true)
    (tX : PySem.W.typeIn K (.ref X) = some (.type "type"))
    (isX : PySem.W.isClsIn K X = true)
    (sXX : PySem.W.subIn K (.ref X) (.ref X) = some true)
    (zisinstance : PySem.W.nsIn K mainGlobals "isinstance" = some none)
    (zint : PySem.W.nsIn K mainGlobals "int" = some none)
    (zbool : PySem.W.nsIn K mainGlobals "bool" = some none)
    (zlist : PySem.W.nsIn K mainGlobals "list" = some none)
    (ztuple : PySem.W.nsIn K mainGlobals "tuple" = some none)
    (zlen : PySem.W.nsIn K mainGlobals "len" = some none)
    (zall : PySem.W.nsIn K mainGlobals "all" = some none)
    (zzip : PySem.W.nsIn K mainGlobals "zip" = some none)
    (zrange : PySem.W.nsIn K mainGlobals "range" = some none)
    (zenumerate : PySem.W.nsIn K mainGlobals "enumerate" = some none)
    (aLeast : PySem.W.findIn K (.ref C) "least" = some (some (.ref gLeast)))
    (lLeast : K.lookup gLeast = some ⟨ocLeast, odLeast, .func (PySem.W.fnOf "least" "Rule.least" (defArgs sLeast) (defBody sLeast) (defScope sLeast) .none kVLeast dcLeast pmLeast anLeast cdLeast ctLeast), slLeast⟩)
    (cLeast : PySem.W.codeIn K cdLeast "Rule.least" = true)
    (kLeast : PySem.W.keepIn K (.ref gLeast) = true)
    (iLeast : PySem.W.isFn K (.ref gLeast) = true)
    (aisInt : PySem.W.nsIn K mainGlobals "is_integer" = some (some (.ref gisInt)))
    (lisInt : K.lookup gisInt = some ⟨ocisInt, odisInt, .func (PySem.W.fnOf "is_integer" "is_integer" (defArgs sIsInt) (defBody sIsInt) (defScope sIsInt) .none kVisInt dcisInt pmisInt anisInt cdisInt ctisInt), slisInt⟩)
    (cisInt : PySem.W.codeIn K cdisInt "is_integer" = true)
    (kisInt : PySem.W.keepIn K (.ref gisInt) = true)
    (abelow : PySem.W.nsIn K mainGlobals "is_below" = some (some (.ref gbelow)))
    (lbelow : K.lookup gbelow = some ⟨ocbelow, odbelow, .func (PySem.W.fnOf "is_below" "is_below" (defArgs sBelow) (defBody sBelow) (defScope sBelow) .none kVbelow dcbelow pmbelow anbelow cdbelow ctbelow), slbelow⟩)
    (cbelow : PySem.W.codeIn K cdbelow "is_below" = true)
    (kbelow : PySem.W.keepIn K (.ref gbelow) = true)
    (aisRow : PySem.W.nsIn K mainGlobals "_is_row" = some (some (.ref gisRow)))
    (lisRow : K.lookup gisRow = some ⟨ocisRow, odisRow, .func (PySem.W.fnOf "_is_row" "_is_row" (defArgs sIsRow) (defBody sIsRow) (defScope sIsRow) .none kVisRow dcisRow pmisRow anisRow cdisRow ctisRow), slisRow⟩)
    (cisRow : PySem.W.codeIn K cdisRow "_is_row" = true)
    (kisRow : PySem.W.keepIn K (.ref gisRow) = true)
    (acheck : PySem.W.nsIn K mainGlobals "_check_table" = some (some (.ref gcheck)))
    (lcheck : K.lookup gcheck = some ⟨occheck, odcheck, .func (PySem.W.fnOf "_check_table" "_check_table" (defArgs sCheck) (defBody sCheck) (defScope sCheck) .none kVcheck dccheck pmcheck ancheck cdcheck ctcheck), slcheck⟩)
    (ccheck : PySem.W.codeIn K cdcheck "_check_table" = true)
    (kcheck : PySem.W.keepIn K (.ref gcheck) = true)
    (am1 : PySem.W.nsIn K mainGlobals "_is_marked_row" = some (some (.ref gm1)))
    (lm1 : K.lookup gm1 = some ⟨ocm1, odm1, .func (PySem.W.fnOf "_is_marked_row" "_is_marked_row" (defArgs sIsM) (defBody sIsM) (defScope sIsM) .none kVm1 dcm1 pmm1 anm1 cdm1 ctm1), slm1⟩)
    (cm1 : PySem.W.codeIn K cdm1 "_is_marked_row" = true)
    (km1 : PySem.W.keepIn K (.ref gm1) = true)
    (am2 : PySem.W.nsIn K mainGlobals "_marked_row" = some (some (.ref gm2)))
    (lm2 : K.lookup gm2 = some ⟨ocm2, odm2, .func (PySem.W.fnOf "_marked_row" "_marked_row" (defArgs sMrow) (defBody sMrow) (defScope sMrow) .none kVm2 dcm2 pmm2 anm2 cdm2 ctm2), slm2⟩)
    (cm2 : PySem.W.codeIn K cdm2 "_marked_row" = true)
    (km2 : PySem.W.keepIn K (.ref gm2) = true)
    (am3 : PySem.W.nsIn K mainGlobals "marked_rows" = some (some (.ref gm3)))
    (lm3 : K.lookup gm3 = some ⟨ocm3, odm3, .func (PySem.W.fnOf "marked_rows" "marked_rows" (defArgs sMrows) (defBody sMrows) (defScope sMrows) .none kVm3 dcm3 pmm3 anm3 cdm3 ctm3), slm3⟩)
    (cm3 : PySem.W.codeIn K cdm3 "marked_rows" = true)
    (km3 : PySem.W.keepIn K (.ref gm3) = true)
    (alf1 : PySem.W.nsIn K mainGlobals "least_form" = some (some (.ref glf1)))
    (llf1 : K.lookup glf1 = some ⟨oclf1, odlf1, .func (PySem.W.fnOf "least_form" "least_form" (defArgs sLeastF) (defBody sLeastF) (defScope sLeastF) .none kVlf1 dclf1 pmlf1 anlf1 cdlf1 ctlf1), sllf1⟩)
    (clf1 : PySem.W.codeIn K cdlf1 "least_form" = true)
    (klf1 : PySem.W.keepIn K (.ref glf1) = true)
    (alf2 : PySem.W.nsIn K mainGlobals "_classes" = some (some (.ref glf2)))
    (llf2 : K.lookup glf2 = some ⟨oclf2, odlf2, .func (PySem.W.fnOf "_classes" "_classes" (defArgs sClasses) (defBody sClasses) (defScope sClasses) .none kVlf2 dclf2 pmlf2 anlf2 cdlf2 ctlf2), sllf2⟩)
    (clf2 : PySem.W.codeIn K cdlf2 "_classes" = true)
    (klf2 : PySem.W.keepIn K (.ref glf2) = true)
    (alf3 : PySem.W.nsIn K mainGlobals "_split" = some (some (.ref glf3)))
    (llf3 : K.lookup glf3 = some ⟨oclf3, odlf3, .func (PySem.W.fnOf "_split" "_split" (defArgs sSplit) (defBody sSplit) (defScope sSplit) .none kVlf3 dclf3 pmlf3 anlf3 cdlf3 ctlf3), sllf3⟩)
    (clf3 : PySem.W.codeIn K cdlf3 "_split" = true)
    (klf3 : PySem.W.keepIn K (.ref glf3) = true)
    (alf4 : PySem.W.nsIn K mainGlobals "_numbered" = some (some (.ref glf4)))
    (llf4 : K.lookup glf4 = some ⟨oclf4, odlf4, .func (PySem.W.fnOf "_numbered" "_numbered" (defArgs sNumbered) (defBody sNumbered) (defScope sNumbered) .none kVlf4 dclf4 pmlf4 anlf4 cdlf4 ctlf4), sllf4⟩)
    (clf4 : PySem.W.codeIn K cdlf4 "_numbered" = true)
    (klf4 : PySem.W.keepIn K (.ref glf4) = true)
    (alf5 : PySem.W.nsIn K mainGlobals "_merged" = some (some (.ref glf5)))
    (llf5 : K.lookup glf5 = some ⟨oclf5, odlf5, .func (PySem.W.fnOf "_merged" "_merged" (defArgs sMerged) (defBody sMerged) (defScope sMerged) .none kVlf5 dclf5 pmlf5 anlf5 cdlf5 ctlf5), sllf5⟩)
    (clf5 : PySem.W.codeIn K cdlf5 "_merged" = true)
    (klf5 : PySem.W.keepIn K (.ref glf5) = true)
    (alf6 : PySem.W.nsIn K mainGlobals "_renumbered" = some (some (.ref glf6)))
    (llf6 : K.lookup glf6 = some ⟨oclf6, odlf6, .func (PySem.W.fnOf "_renumbered" "_renumbered" (defArgs sRenum) (defBody sRenum) (defScope sRenum) .none kVlf6 dclf6 pmlf6 anlf6 cdlf6 ctlf6), sllf6⟩)
    (clf6 : PySem.W.codeIn K cdlf6 "_renumbered" = true)
    (klf6 : PySem.W.keepIn K (.ref glf6) = true)
    (alf7 : PySem.W.nsIn K mainGlobals "_visit_numbers" = some (some (.ref glf7)))
    (llf7 : K.lookup glf7 = some ⟨oclf7, odlf7, .func (PySem.W.fnOf "_visit_numbers" "_visit_numbers" (defArgs sVisit) (defBody sVisit) (defScope sVisit) .none kVlf7 dclf7 pmlf7 anlf7 cdlf7 ctlf7), sllf7⟩)
    (clf7 : PySem.W.codeIn K cdlf7 "_visit_numbers" = true)
    (klf7 : PySem.W.keepIn K (.ref glf7) = true)
    (amkd : PySem.W.nsIn K mainGlobals "marked" = some (some (.ref gmkd)))
    (lmkd : K.lookup gmkd = some ⟨ocmkd, odmkd, .func (PySem.W.fnOf "marked" "marked" (defArgs sMarked) (defBody sMarked) (defScope sMarked) .none kVmkd dcmkd pmmkd anmkd cdmkd ctmkd), slmkd⟩)
    (cmkd : PySem.W.codeIn K cdmkd "marked" = true)
    (kmkd : PySem.W.keepIn K (.ref gmkd) = true)
    (adraw : PySem.W.nsIn K mainGlobals "_law_draw" = some (some (.ref gdraw)))
    (ldraw : K.lookup gdraw = some ⟨ocdraw, oddraw, .func (PySem.W.fnOf "_law_draw" "_law_draw" (defArgs sDraw) (defBody sDraw) (defScope sDraw) .none kVdraw dcdraw pmdraw andraw cddraw ctdraw), sldraw⟩)
    (cdraw : PySem.W.codeIn K cddraw "_law_draw" = true)
    (kdraw : PySem.W.keepIn K (.ref gdraw) = true)
    (astart : PySem.W.nsIn K mainGlobals "_law_start" = some (some (.ref gstart)))
    (lstart : K.lookup gstart = some ⟨ocstart, odstart, .func (PySem.W.fnOf "_law_start" "_law_start" (defArgs sStart) (defBody sStart) (defScope sStart) .none kVstart dcstart pmstart anstart cdstart ctstart), slstart⟩)
    (cstart : PySem.W.codeIn K cdstart "_law_start" = true)
    (kstart : PySem.W.keepIn K (.ref gstart) = true)
    (apick : PySem.W.nsIn K mainGlobals "_law_pick" = some (some (.ref gpick)))
    (lpick : K.lookup gpick = some ⟨ocpick, odpick, .func (PySem.W.fnOf "_law_pick" "_law_pick" (defArgs sPick) (defBody sPick) (defScope sPick) .none kVpick dcpick pmpick anpick cdpick ctpick), slpick⟩)
    (cpick : PySem.W.codeIn K cdpick "_law_pick" = true)
    (kpick : PySem.W.keepIn K (.ref gpick) = true)
    (ahdd_ : PySem.W.nsIn K mainGlobals "_law_m_handed" = some (some (.ref ghdd_)))
    (lhdd_ : K.lookup ghdd_ = some ⟨ochdd_, odhdd_, .func (PySem.W.fnOf "_law_m_handed" "_law_m_handed" (defArgs sHanded) (defBody sHanded) (defScope sHanded) .none kVhdd_ dchdd_ pmhdd_ anhdd_ cdhdd_ cthdd_), slhdd_⟩)
    (chdd_ : PySem.W.codeIn K cdhdd_ "_law_m_handed" = true)
    (khdd_ : PySem.W.keepIn K (.ref ghdd_) = true)
    (aaft : PySem.W.nsIn K mainGlobals "_law_m_after" = some (some (.ref gaft)))
    (laft : K.lookup gaft = some ⟨ocaft, odaft, .func (PySem.W.fnOf "_law_m_after" "_law_m_after" (defArgs sAft) (defBody sAft) (defScope sAft) .none kVaft dcaft pmaft anaft cdaft ctaft), slaft⟩)
    (caft : PySem.W.codeIn K cdaft "_law_m_after" = true)
    (kaft : PySem.W.keepIn K (.ref gaft) = true)
    (aunl : PySem.W.nsIn K mainGlobals "_law_m_unlike" = some (some (.ref gunl)))
    (lunl : K.lookup gunl = some ⟨ocunl, odunl, .func (PySem.W.fnOf "_law_m_unlike" "_law_m_unlike" (defArgs sUnlike) (defBody sUnlike) (defScope sUnlike) .none kVunl dcunl pmunl anunl cdunl ctunl), slunl⟩)
    (cunl : PySem.W.codeIn K cdunl "_law_m_unlike" = true)
    (kunl : PySem.W.keepIn K (.ref gunl) = true)
    (avis : PySem.W.nsIn K mainGlobals "_law_m_visits" = some (some (.ref gvis)))
    (lvis : K.lookup gvis = some ⟨ocvis, odvis, .func (PySem.W.fnOf "_law_m_visits" "_law_m_visits" (defArgs sVisits) (defBody sVisits) (defScope sVisits) .none kVvis dcvis pmvis anvis cdvis ctvis), slvis⟩)
    (cvis : PySem.W.codeIn K cdvis "_law_m_visits" = true)
    (kvis : PySem.W.keepIn K (.ref gvis) = true)
    (alst : PySem.W.nsIn K mainGlobals "_law_m_least" = some (some (.ref glst)))
    (llst : K.lookup glst = some ⟨oclst, odlst, .func (PySem.W.fnOf "_law_m_least" "_law_m_least" (defArgs sLst) (defBody sLst) (defScope sLst) .none kVlst dclst pmlst anlst cdlst ctlst), sllst⟩)
    (clst : PySem.W.codeIn K cdlst "_law_m_least" = true)
    (klst : PySem.W.keepIn K (.ref glst) = true)
    (acalls : PySem.W.nsIn K mainGlobals "_law_m_calls" = some (some (.ref gcalls)))
    (lcalls : K.lookup gcalls = some ⟨occalls, odcalls, .func (PySem.W.fnOf "_law_m_calls" "_law_m_calls" (defArgs sCalls) (defBody sCalls) (defScope sCalls) .none kVcalls dccalls pmcalls ancalls cdcalls ctcalls), slcalls⟩)
    (ccalls : PySem.W.codeIn K cdcalls "_law_m_calls" = true)
    (kcalls : PySem.W.keepIn K (.ref gcalls) = true)
    (apair : PySem.W.nsIn K mainGlobals "_law_m_pair" = some (some (.ref gpair)))
    (lpair : K.lookup gpair = some ⟨ocpair, odpair, .func (PySem.W.fnOf "_law_m_pair" "_law_m_pair" (defArgs sPair) (defBody sPair) (defScope sPair) .none kVpair dcpair pmpair anpair cdpair ctpair), slpair⟩)
    (cpair : PySem.W.codeIn K cdpair "_law_m_pair" = true)
    (kpair : PySem.W.keepIn K (.ref gpair) = true)
    (alists : PySem.W.nsIn K mainGlobals "_law_list" = some (some (.ref glists)))
    (llists : K.lookup glists = some ⟨oclists, odlists, .func (PySem.W.fnOf "_law_list" "_law_list" (defArgs sLists) (defBody sLists) (defScope sLists) .none kVlists dclists pmlists anlists cdlists ctlists), sllists⟩)
    (clists : PySem.W.codeIn K cdlists "_law_list" = true)
    (klists : PySem.W.keepIn K (.ref glists) = true)
    (arefused : PySem.W.nsIn K mainGlobals "_law_refused" = some (some (.ref grefused)))
    (lrefused : K.lookup grefused = some ⟨ocrefused, odrefused, .func (PySem.W.fnOf "_law_refused" "_law_refused" (defArgs sRefused) (defBody sRefused) (defScope sRefused) .none kVrefused dcrefused pmrefused anrefused cdrefused ctrefused), slrefused⟩)
    (crefused : PySem.W.codeIn K cdrefused "_law_refused" = true)
    (krefused : PySem.W.keepIn K (.ref grefused) = true)
    (aLaw : PySem.W.nsIn K mainGlobals "law" = some (some (.ref gLaw)))
    (lLaw : K.lookup gLaw = some ⟨ocLaw, odLaw, .func (PySem.W.fnOf "law" "law" (defArgs sLaw) (defBody sLaw) (defScope sLaw) .none kVLaw dcLaw pmLaw anLaw cdLaw ctLaw), slLaw⟩)
    (cLaw : PySem.W.codeIn K cdLaw "law" = true)
    (kLaw : PySem.W.keepIn K (.ref gLaw) = true) :
    ∃ fd : FuncData, (∀ (s : Shared) (v : Value), BindsTo s fd ⟨[v], []⟩ [("_law_script", v)]) ∧ ∀ base : Heap, K.In base → base.Ns mainGlobals mg → FnOk l.prog w K mg base CX0 10 fa fd ["_law_script"] (spLaw K) := by
  have e := hfa.symm.trans (PySem.W.mg_of X_ G aLaw)
  cases e
  have FCI : FunI K gCI (PySem.W.fnOf "__init__" "Rule.__init__" (defArgs sInit) (defBody sInit) (defScope sInit) (.ref TT) kVCI dcCI pmCI anCI cdCI ctCI) DD := ⟨⟨_, _, _, _, _, _, _, _, _, _, rfl, lCI, cCI, .inr ⟨by simp, TT, _, [.ref DD], mT, rfl, lT, rfl, .cons rfl .nil⟩, .inl rfl⟩, kCI⟩
  have b1I := FCI.binds1 (ps := ["self", "rows", "starts"]) 2 0 (by simp) rfl (fun T kV doc pm an cdv ct us its h1 h2 => match us, h1, its, h2 with | [_, _], _, [_], _ => ⟨_, rfl, rfl⟩)
  have hdd : ∀ H, SqT K H DD [V.int 0] := fun H => .inr ⟨_, #[.int 0 tkD], mD, lD, rfl, rfl, (by show 1 ≤ sizeLine; decide), .cons ⟨tkD, rfl⟩ .nil⟩
  have hdp : ∀ H, SqT K H DP movesV := fun H => .inr ⟨_, #[.str "front" tkP1, .str "back" tkP2, .str "keep" tkP3], mP, lP, rfl, rfl, (by show 3 ≤ sizeLine; decide), .cons ⟨tkP1, rfl⟩ (.cons ⟨tkP2, rfl⟩ (.cons ⟨tkP3, rfl⟩ .nil))⟩
  have FLeast := fun_mk (st := sLeast) lLeast cLeast kLeast
  have bLeast := FLeast.binds (ps := ["self"]) fun _ _ _ _ _ _ us hl => match us, hl with | [_], _ => rfl
  have FisInt := fun_mk (st := sIsInt) lisInt cisInt kisInt
  have bisInt := FisInt.binds (ps := ["value"]) fun _ _ _ _ _ _ us hl => match us, hl with | [_], _ => rfl
  have Fbelow := fun_mk (st := sBelow) lbelow cbelow kbelow
  have bbelow := Fbelow.binds (ps := ["value", "count"]) fun _ _ _ _ _ _ us hl => match us, hl with | [_, _], _ => rfl
  have FisRow := fun_mk (st := sIsRow) lisRow cisRow kisRow
  have bisRow := FisRow.binds (ps := ["row", "count"]) fun _ _ _ _ _ _ us hl => match us, hl with | [_, _], _ => rfl
  have Fcheck := fun_mk (st := sCheck) lcheck ccheck kcheck
  have bcheck := Fcheck.binds (ps := ["rows", "starts"]) fun _ _ _ _ _ _ us hl => match us, hl with | [_, _], _ => rfl
  have Fm1 := fun_mk (st := sIsM) lm1 cm1 km1
  have bm1 := Fm1.binds (ps := ["row", "count"]) fun _ _ _ _ _ _ us hl => match us, hl with | [_, _], _ => rfl
  have Fm2 := fun_mk (st := sMrow) lm2 cm2 km2
  have bm2 := Fm2.binds (ps := ["rows", "ahead", "behind"]) fun _ _ _ _ _ _ us hl => match us, hl with | [_, _, _], _ => rfl
  have Fm3 := fun_mk (st := sMrows) lm3 cm3 km3
  have bm3 := Fm3.binds (ps := ["rows"]) fun _ _ _ _ _ _ us hl => match us, hl with | [_], _ => rfl
  have Flf1 := fun_mk (st := sLeastF) llf1 clf1 klf1
  have blf1 := Flf1.binds (ps := ["rows", "starts"]) fun _ _ _ _ _ _ us hl => match us, hl with | [_, _], _ => rfl
  have Flf2 := fun_mk (st := sClasses) llf2 clf2 klf2
  have blf2 := Flf2.binds (ps := ["rows"]) fun _ _ _ _ _ _ us hl => match us, hl with | [_], _ => rfl
  have Flf3 := fun_mk (st := sSplit) llf3 clf3 klf3
  have blf3 := Flf3.binds (ps := ["rows", "classes"]) fun _ _ _ _ _ _ us hl => match us, hl with | [_, _], _ => rfl
  have Flf4 := fun_mk (st := sNumbered) llf4 clf4 klf4
  have blf4 := Flf4.binds (ps := ["keys"]) fun _ _ _ _ _ _ us hl => match us, hl with | [_], _ => rfl
  have Flf5 := fun_mk (st := sMerged) llf5 clf5 klf5
  have blf5 := Flf5.binds (ps := ["rows", "classes"]) fun _ _ _ _ _ _ us hl => match us, hl with | [_, _], _ => rfl
  have Flf6 := fun_mk (st := sRenum) llf6 clf6 klf6
  have blf6 := Flf6.binds (ps := ["row", "numbers"]) fun _ _ _ _ _ _ us hl => match us, hl with | [_, _], _ => rfl
  have Flf7 := fun_mk (st := sVisit) llf7 clf7 klf7
  have blf7 := Flf7.binds (ps := ["rows", "starts"]) fun _ _ _ _ _ _ us hl => match us, hl with | [_, _], _ => rfl
  have Fmkd := fun_mk (st := sMarked) lmkd cmkd kmkd
  have bmkd := Fmkd.binds (ps := ["rows"]) fun _ _ _ _ _ _ us hl => match us, hl with | [_], _ => rfl
  have Fdraw := fun_mk (st := sDraw) ldraw cdraw kdraw
  have bdraw := Fdraw.binds (ps := ["_law_stream", "_law_many"]) fun _ _ _ _ _ _ us hl => match us, hl with | [_, _], _ => rfl
  have Fstart := fun_mk (st := sStart) lstart cstart kstart
  have bstart := Fstart.binds (ps := ["_law_script"]) fun _ _ _ _ _ _ us hl => match us, hl with | [_], _ => rfl
  have Fpick := fun_mk (st := sPick) lpick cpick kpick
  have bpick := Fpick.binds (ps := ["_law_stream", "_law_some"]) fun _ _ _ _ _ _ us hl => match us, hl with | [_, _], _ => rfl
  have Fhdd_ := fun_mk (st := sHanded) lhdd_ chdd_ khdd_
  have bhdd_ := Fhdd_.binds (ps := ["_law_stream", "_law_rows"]) fun _ _ _ _ _ _ us hl => match us, hl with | [_, _], _ => rfl
  have Faft := fun_mk (st := sAft) laft caft kaft
  have baft := Faft.binds (ps := ["_law_row", "_law_behind"]) fun _ _ _ _ _ _ us hl => match us, hl with | [_, _], _ => rfl
  have Funl := fun_mk (st := sUnlike) lunl cunl kunl
  have bunl := Funl.binds (ps := ["_law_one", "_law_other", "_law_pairs"]) fun _ _ _ _ _ _ us hl => match us, hl with | [_, _, _], _ => rfl
  have Fvis := fun_mk (st := sVisits) lvis cvis kvis
  have bvis := Fvis.binds (ps := ["_law_rows", "_law_starts"]) fun _ _ _ _ _ _ us hl => match us, hl with | [_, _], _ => rfl
  have Flst := fun_mk (st := sLst) llst clst klst
  have blst := Flst.binds (ps := ["_law_rule"]) fun _ _ _ _ _ _ us hl => match us, hl with | [_], _ => rfl
  have Fcalls := fun_mk (st := sCalls) lcalls ccalls kcalls
  have bcalls := Fcalls.binds (ps := ["_law_stream", "_law_cases", "_law_most"]) fun _ _ _ _ _ _ us hl => match us, hl with | [_, _, _], _ => rfl
  have Fpair := fun_mk (st := sPair) lpair cpair kpair
  have bpair := Fpair.binds (ps := ["_law_table", "_law_low", "_law_high", "_law_calls"]) fun _ _ _ _ _ _ us hl => match us, hl with | [_, _, _, _], _ => rfl
  have Flists := fun_mk (st := sLists) llists clists klists
  have blists := Flists.binds (ps := ["_law_words", "_law_marks", "_law_calls"]) fun _ _ _ _ _ _ us hl => match us, hl with | [_, _, _], _ => rfl
  have Frefused := fun_mk (st := sRefused) lrefused crefused krefused
  have brefused := Frefused.binds (ps := ["_law_stream", "_law_words"]) fun _ _ _ _ _ _ us hl => match us, hl with | [_, _], _ => rfl
  have PR : Prog K mg C X gCI DD gisInt gbelow gisRow gcheck gLeast gm1 gm2 gm3 glf1 glf2 glf3 glf4 glf5 glf6 glf7 gmkd gdraw gstart gpick ghdd_ gaft gunl gvis glst gcalls gpair glists grefused (PySem.W.fnOf "__init__" "Rule.__init__" (defArgs sInit) (defBody sInit) (defScope sInit) (.ref TT) kVCI dcCI pmCI anCI cdCI ctCI) (PySem.W.fnOf "is_integer" "is_integer" (defArgs sIsInt) (defBody sIsInt) (defScope sIsInt) .none kVisInt dcisInt pmisInt anisInt cdisInt ctisInt) (PySem.W.fnOf "is_below" "is_below" (defArgs sBelow) (defBody sBelow) (defScope sBelow) .none kVbelow dcbelow pmbelow anbelow cdbelow ctbelow) (PySem.W.fnOf "_is_row" "_is_row" (defArgs sIsRow) (defBody sIsRow) (defScope sIsRow) .none kVisRow dcisRow pmisRow anisRow cdisRow ctisRow) (PySem.W.fnOf "_check_table" "_check_table" (defArgs sCheck) (defBody sCheck) (defScope sCheck) .none kVcheck dccheck pmcheck ancheck cdcheck ctcheck) (PySem.W.fnOf "least" "Rule.least" (defArgs sLeast) (defBody sLeast) (defScope sLeast) .none kVLeast dcLeast pmLeast anLeast cdLeast ctLeast) (PySem.W.fnOf "_is_marked_row" "_is_marked_row" (defArgs sIsM) (defBody sIsM) (defScope sIsM) .none kVm1 dcm1 pmm1 anm1 cdm1 ctm1) (PySem.W.fnOf "_marked_row" "_marked_row" (defArgs sMrow) (defBody sMrow) (defScope sMrow) .none kVm2 dcm2 pmm2 anm2 cdm2 ctm2) (PySem.W.fnOf "marked_rows" "marked_rows" (defArgs sMrows) (defBody sMrows) (defScope sMrows) .none kVm3 dcm3 pmm3 anm3 cdm3 ctm3) (PySem.W.fnOf "least_form" "least_form" (defArgs sLeastF) (defBody sLeastF) (defScope sLeastF) .none kVlf1 dclf1 pmlf1 anlf1 cdlf1 ctlf1) (PySem.W.fnOf "_classes" "_classes" (defArgs sClasses) (defBody sClasses) (defScope sClasses) .none kVlf2 dclf2 pmlf2 anlf2 cdlf2 ctlf2) (PySem.W.fnOf "_split" "_split" (defArgs sSplit) (defBody sSplit) (defScope sSplit) .none kVlf3 dclf3 pmlf3 anlf3 cdlf3 ctlf3) (PySem.W.fnOf "_numbered" "_numbered" (defArgs sNumbered) (defBody sNumbered) (defScope sNumbered) .none kVlf4 dclf4 pmlf4 anlf4 cdlf4 ctlf4) (PySem.W.fnOf "_merged" "_merged" (defArgs sMerged) (defBody sMerged) (defScope sMerged) .none kVlf5 dclf5 pmlf5 anlf5 cdlf5 ctlf5) (PySem.W.fnOf "_renumbered" "_renumbered" (defArgs sRenum) (defBody sRenum) (defScope sRenum) .none kVlf6 dclf6 pmlf6 anlf6 cdlf6 ctlf6) (PySem.W.fnOf "_visit_numbers" "_visit_numbers" (defArgs sVisit) (defBody sVisit) (defScope sVisit) .none kVlf7 dclf7 pmlf7 anlf7 cdlf7 ctlf7) (PySem.W.fnOf "marked" "marked" (defArgs sMarked) (defBody sMarked) (defScope sMarked) .none kVmkd dcmkd pmmkd anmkd cdmkd ctmkd) (PySem.W.fnOf "_law_draw" "_law_draw" (defArgs sDraw) (defBody sDraw) (defScope sDraw) .none kVdraw dcdraw pmdraw andraw cddraw ctdraw) (PySem.W.fnOf "_law_start" "_law_start" (defArgs sStart) (defBody sStart) (defScope sStart) .none kVstart dcstart pmstart anstart cdstart ctstart) (PySem.W.fnOf "_law_pick" "_law_pick" (defArgs sPick) (defBody sPick) (defScope sPick) .none kVpick dcpick pmpick anpick cdpick ctpick) (PySem.W.fnOf "_law_m_handed" "_law_m_handed" (defArgs sHanded) (defBody sHanded) (defScope sHanded) .none kVhdd_ dchdd_ pmhdd_ anhdd_ cdhdd_ cthdd_) (PySem.W.fnOf "_law_m_after" "_law_m_after" (defArgs sAft) (defBody sAft) (defScope sAft) .none kVaft dcaft pmaft anaft cdaft ctaft) (PySem.W.fnOf "_law_m_unlike" "_law_m_unlike" (defArgs sUnlike) (defBody sUnlike) (defScope sUnlike) .none kVunl dcunl pmunl anunl cdunl ctunl) (PySem.W.fnOf "_law_m_visits" "_law_m_visits" (defArgs sVisits) (defBody sVisits) (defScope sVisits) .none kVvis dcvis pmvis anvis cdvis ctvis) (PySem.W.fnOf "_law_m_least" "_law_m_least" (defArgs sLst) (defBody sLst) (defScope sLst) .none kVlst dclst pmlst anlst cdlst ctlst) (PySem.W.fnOf "_law_m_calls" "_law_m_calls" (defArgs sCalls) (defBody sCalls) (defScope sCalls) .none kVcalls dccalls pmcalls ancalls cdcalls ctcalls) (PySem.W.fnOf "_law_m_pair" "_law_m_pair" (defArgs sPair) (defBody sPair) (defScope sPair) .none kVpair dcpair pmpair anpair cdpair ctpair) (PySem.W.fnOf "_law_list" "_law_list" (defArgs sLists) (defBody sLists) (defScope sLists) .none kVlists dclists pmlists anlists cdlists ctlists) (PySem.W.fnOf "_law_refused" "_law_refused" (defArgs sRefused) (defBody sRefused) (defScope sRefused) .none kVrefused dcrefused pmrefused anrefused cdrefused ctrefused) := ⟨⟨⟨⟨pgC, hdC, poC, saC⟩, nCrows, nCstarts, nCmarks, PySem.W.mg_of X_ G aC, PySem.W.mg_none_of X_ G zisinstance, PySem.W.mg_none_of X_ G zint, PySem.W.mg_none_of X_ G zbool, PySem.W.mg_none_of X_ G zlist, PySem.W.mg_none_of X_ G ztuple, PySem.W.mg_none_of X_ G zlen, PySem.W.mg_none_of X_ G zall, PySem.W.mg_none_of X_ G zzip, PySem.W.mg_none_of X_ G zrange, ⟨tkM, PySem.W.mg_of X_ G aMost⟩, ⟨DM, PySem.W.mg_of X_ G aM, ⟨⟨x1, x2, x3, x4, y1, y2, y3, y4, nM_, lM⟩, lw⟩⟩⟩, ⟨⟨DP, PySem.W.mg_of X_ G aP, hdp⟩, ⟨tkMM, PySem.W.mg_of X_ G aMM⟩⟩, ⟨xX, PySem.W.mg_of X_ G aX, kX, bX, tX, exm_2 bX isX tX sXX⟩, FCI, ⟨mkC, aCI, iCI, kcC⟩, bI2_of FCI, ⟨FisInt, bisInt, PySem.W.mg_of X_ G aisInt⟩, ⟨Fbelow, bbelow, PySem.W.mg_of X_ G abelow⟩, ⟨FisRow, bisRow, PySem.W.mg_of X_ G aisRow⟩, ⟨Fcheck, bcheck, PySem.W.mg_of X_ G acheck⟩, FLeast, bLeast, ⟨aLeast, iLeast, kLeast⟩, ⟨Fm1, bm1, PySem.W.mg_of X_ G am1⟩, ⟨Fm2, bm2, PySem.W.mg_of X_ G am2⟩, ⟨Fm3, bm3, PySem.W.mg_of X_ G am3⟩, ⟨PySem.W.mg_none_of X_ G zenumerate, ⟨Flf1, blf1, PySem.W.mg_of X_ G alf1⟩, ⟨Flf2, blf2, PySem.W.mg_of X_ G alf2⟩, ⟨Flf3, blf3, PySem.W.mg_of X_ G alf3⟩, ⟨Flf4, blf4, PySem.W.mg_of X_ G alf4⟩, ⟨Flf5, blf5, PySem.W.mg_of X_ G alf5⟩, ⟨Flf6, blf6, PySem.W.mg_of X_ G alf6⟩, ⟨Flf7, blf7, PySem.W.mg_of X_ G alf7⟩⟩⟩, ⟨Fmkd, bmkd, PySem.W.mg_of X_ G amkd⟩, ⟨Fdraw, bdraw, PySem.W.mg_of X_ G adraw⟩, ⟨Fstart, bstart, PySem.W.mg_of X_ G astart⟩, ⟨Fpick, bpick, PySem.W.mg_of X_ G apick⟩, ⟨Fhdd_, bhdd_, PySem.W.mg_of X_ G ahdd_⟩, ⟨Faft, baft, PySem.W.mg_of X_ G aaft⟩, ⟨Funl, bunl, PySem.W.mg_of X_ G aunl⟩, ⟨Fvis, bvis, PySem.W.mg_of X_ G avis⟩, ⟨Flst, blst, PySem.W.mg_of X_ G alst⟩, ⟨Fcalls, bcalls, PySem.W.mg_of X_ G acalls⟩, ⟨Fpair, bpair, PySem.W.mg_of X_ G apair⟩, ⟨Flists, blists, PySem.W.mg_of X_ G alists⟩, ⟨Frefused, brefused, PySem.W.mg_of X_ G arefused⟩⟩
  exact ⟨PySem.W.fnOf "law" "law" (defArgs sLaw) (defBody sLaw) (defScope sLaw) .none kVLaw dcLaw pmLaw anLaw cdLaw ctLaw, fun s v => .of_eq rfl, fun base _ _ => ok_law (fun_mk (st := sLaw) lLaw cLaw kLaw) PR⟩
theorem walk_ {l : PySem.W.OpenLaw} {q : Program} {loose : List Str} {XP : (Str → Option Value) → Heap → Prop} {YP : World → Heap → Prop} {d : DefRec} {K : Params → PySem.W.Frag} (hn : l.most = some 63) (hdf : d.params.defaults = [])
    (hY : ∀ (w : World) (h : Heap), YP w h → (K w.params).In h)
    (F : ∀ (w : World) (mg : Str → Option Value) (fa : Addr) (h : Heap), (K w.params).In h → h.Ns mainGlobals mg → mg d.name = some (.ref fa) →
      ∃ fd : FuncData, (∀ (s : Shared) (u : Value), BindsTo s fd ⟨[u], []⟩ [("_law_script", u)]) ∧ ∀ base : Heap, (K w.params).In base → base.Ns mainGlobals mg → FnOk l.prog w (K w.params) mg base CX0 10 fa fd ["_law_script"] (spLaw (K w.params))) :
    PySem.W.WalkO q loose XP YP l.row.toRowW d [] (fun f vs => PySem.call f vs) :=
  L2.walk_of (n := 63) (k := 10) (x := "_law_script") (CX := fun _ => CX0) (sp := fun w => spLaw (K w.params)) hn (by decide) hdf ⟨rfl, by decide, by decide⟩ hY F (fun _ _ a ns hl _ hS => ⟨a, ns, rfl, hS, hl, fun _ => rfl⟩) fun _ _ _ _ _ z => z
end PA

open PySem PySem.W PyProof.Rows
set_option maxRecDepth 100000 in
set_option maxHeartbeats 0 in
theorem PySem.Challenge.cw_pairahead_k13_whole_marked_rules_holds : PySem.Challenge.rw_pairahead_k13_whole_marked_rules.Holds := by
  w_on; o_law; k_head; (case hw => w_witness2)
  k_fill
  refine PA.walk_ (l := PySem.Challenge.rw_pairahead_k13_whole_marked_rules) rfl rfl (fun w h Y => PySem.W.kIn_of Y) ?F
  case F =>
    intro w mg fa h KX G hmg
    refine' PA.all_mk KX G hmg ?aC ?pgC ?hdC ?poC ?saC ?kcC ?mkC ?nCrows ?nCstarts ?nCmarks ?aCI ?lCI ?cCI ?kCI ?iCI ?lT ?lD ?aM ?lM ?lw ?aMost ?aMM ?aP ?lP ?aX ?xX ?kX ?bX ?tX ?isX ?sXX ?zisinstance ?zint ?zbool ?zlist ?ztuple ?zlen ?zall ?zzip ?zrange ?zenumerate ?aLeast ?lLeast ?cLeast ?kLeast ?iLeast ?aisInt ?lisInt ?cisInt ?kisInt ?abelow ?lbelow ?cbelow ?kbelow ?aisRow ?lisRow ?cisRow ?kisRow ?acheck ?lcheck ?ccheck ?kcheck ?am1 ?lm1 ?cm1 ?km1 ?am2 ?lm2 ?cm2 ?km2 ?am3 ?lm3 ?cm3 ?km3 ?alf1 ?llf1 ?clf1 ?klf1 ?alf2 ?llf2 ?clf2 ?klf2 ?alf3 ?llf3 ?clf3 ?klf3 ?alf4 ?llf4 ?clf4 ?klf4 ?alf5 ?llf5 ?clf5 ?klf5 ?alf6 ?llf6 ?clf6 ?klf6 ?alf7 ?llf7 ?clf7 ?klf7 ?amkd ?lmkd ?cmkd ?kmkd ?adraw ?ldraw ?cdraw ?kdraw ?astart ?lstart ?cstart ?kstart ?apick ?lpick ?cpick ?kpick ?ahdd_ ?lhdd_ ?chdd_ ?khdd_ ?aaft ?laft ?caft ?kaft ?aunl ?lunl ?cunl ?kunl ?avis ?lvis ?cvis ?kvis ?alst ?llst ?clst ?klst ?acalls ?lcalls ?ccalls ?kcalls ?apair ?lpair ?cpair ?kpair ?alists ?llists ?clists ?klists ?arefused ?lrefused ?crefused ?krefused ?aLaw ?lLaw ?cLaw ?kLaw
    (case aC => k_is)
    (case pgC => k_is)
    (case hdC => k_is)
    (case poC => k_is)
    (case saC => k_is)
    (case kcC => k_is)
    (case mkC => k_is)
    (case nCrows => k_is)
    (case nCstarts => k_is)
    (case nCmarks => k_is)
    (case aCI => k_is)
    (case lCI => k_is)
    (case cCI => k_is)
    (case kCI => k_is)
    (case iCI => k_is)
    (case lT => k_is)
    (case lD => k_is)
    (case aM => k_is)
    (case lM => k_is)
    (case lw => first | rfl | decide | k_is)
    (case aMost => k_is)
    (case aMM => k_is)
    (case aP => k_is)
    (case lP => k_is)
    (case aX => k_is)
    (case xX => k_exc)
    (case kX => k_is)
    (case bX => k_is)
    (case tX => k_is)
    (case isX => k_is)
    (case sXX => first | rfl | k_is)
    (case zisinstance => k_is)
    (case zint => k_is)
    (case zbool => k_is)
    (case zlist => k_is)
    (case ztuple => k_is)
    (case zlen => k_is)
    (case zall => k_is)
    (case zzip => k_is)
    (case zrange => k_is)
    (case zenumerate => k_is)
    (case aLeast => k_is)
    (case lLeast => k_is)
    (case cLeast => k_is)
    (case kLeast => k_is)
    (case iLeast => k_is)
    (case aisInt => k_is)
    (case lisInt => k_is)
    (case cisInt => k_is)
    (case kisInt => k_is)
    (case abelow => k_is)
    (case lbelow => k_is)
    (case cbelow => k_is)
    (case kbelow => k_is)
    (case aisRow => k_is)
    (case lisRow => k_is)
    (case cisRow => k_is)
    (case kisRow => k_is)
    (case acheck => k_is)
    (case lcheck => k_is)
    (case ccheck => k_is)
    (case kcheck => k_is)
    (case am1 => k_is)
    (case lm1 => k_is)
    (case cm1 => k_is)
    (case km1 => k_is)
    (case am2 => k_is)
    (case lm2 => k_is)
    (case cm2 => k_is)
    (case km2 => k_is)
    (case am3 => k_is)
    (case lm3 => k_is)
    (case cm3 => k_is)
    (case km3 => k_is)
    (case alf1 => k_is)
    (case llf1 => k_is)
    (case clf1 => k_is)
    (case klf1 => k_is)
    (case alf2 => k_is)
    (case llf2 => k_is)
    (case clf2 => k_is)
    (case klf2 => k_is)
    (case alf3 => k_is)
    (case llf3 => k_is)
    (case clf3 => k_is)
    (case klf3 => k_is)
    (case alf4 => k_is)
    (case llf4 => k_is)
    (case clf4 => k_is)
    (case klf4 => k_is)
    (case alf5 => k_is)
    (case llf5 => k_is)
    (case clf5 => k_is)
    (case klf5 => k_is)
    (case alf6 => k_is)
    (case llf6 => k_is)
    (case clf6 => k_is)
    (case klf6 => k_is)
    (case alf7 => k_is)
    (case llf7 => k_is)
    (case clf7 => k_is)
    (case klf7 => k_is)
    (case amkd => k_is)
    (case lmkd => k_is)
    (case cmkd => k_is)
    (case kmkd => k_is)
    (case adraw => k_is)
    (case ldraw => k_is)
    (case cdraw => k_is)
    (case kdraw => k_is)
    (case astart => k_is)
    (case lstart => k_is)
    (case cstart => k_is)
    (case kstart => k_is)
    (case apick => k_is)
    (case lpick => k_is)
    (case cpick => k_is)
    (case kpick => k_is)
    (case ahdd_ => k_is)
    (case lhdd_ => k_is)
    (case chdd_ => k_is)
    (case khdd_ => k_is)
    (case aaft => k_is)
    (case laft => k_is)
    (case caft => k_is)
    (case kaft => k_is)
    (case aunl => k_is)
    (case lunl => k_is)
    (case cunl => k_is)
    (case kunl => k_is)
    (case avis => k_is)
    (case lvis => k_is)
    (case cvis => k_is)
    (case kvis => k_is)
    (case alst => k_is)
    (case llst => k_is)
    (case clst => k_is)
    (case klst => k_is)
    (case acalls => k_is)
    (case lcalls => k_is)
    (case ccalls => k_is)
    (case kcalls => k_is)
    (case apair => k_is)
    (case lpair => k_is)
    (case cpair => k_is)
    (case kpair => k_is)
    (case alists => k_is)
    (case llists => k_is)
    (case clists => k_is)
    (case klists => k_is)
    (case arefused => k_is)
    (case lrefused => k_is)
    (case crefused => k_is)
    (case krefused => k_is)
    (case aLaw => k_is)
    (case lLaw => k_is)
    (case cLaw => k_is)
    (case kLaw => k_is)
#print axioms PySem.Challenge.cw_pairahead_k13_whole_marked_rules_holds
