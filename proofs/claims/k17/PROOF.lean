import PyProof.Rows.All
import Wide.All
import OpenK.AllK
import Wide.FinOn
import HandS.ForMost
import HandS.IsInst
import HandS.Zip
import HandS.Wide
import HandS.Codes
import HandS.Evl
import HandS.Conv
import HandS.Defaults
import HandS.MakeKw
import HandS.Walk
import HandS.TupAny
import HandS.Words
import HandS.WordsList
import HandS.ClsMeth
import HandS.OwnEq
import HandS.Gcd
import HandS.ExcBuiltin
import HandS.TryOnly
import HandS.ForExc
import HandS.FStr
import KE.KCallOwn
import PyProof.Conv_bool
import HandS.StrMore
import PySem.Challenge.RW_pairahead_k17_whole_lists_of_any_length
import KE.KDictCopyH
import HandS.Base
import HandS.Call
import HandS.List
import HandS.Dict
import KE.GoesMore
import KE.GoesZip
import KE.GoesEnum
import HandS.TupLen
import HandS.Style
import HandS.Small
import KE.KeyNested
import KE.KDictPairs
import HandS.SortInts
import HandS.Strs
import HandS.Comp
import HandS.ReplaceLit
import PyProof.StrOps2
set_option Elab.async false
set_option linter.all false
set_option maxRecDepth 100000
set_option maxHeartbeats 2000000
/-! what serves every row -/
namespace L2
open PySem PySem.Spec PyProof.Rows
theorem PI.or {X : Cx} {tg l : Expr} {w1 w2 : TI} (h1 : PI X tg l w1) (h2 : PI X tg l w2) : PI X tg l (fun σ H R => w1 σ H R ∨ w2 σ H R) :=
  ⟨fun pins s σ H R I h => h.elim (h1.run pins s σ H R I) (h2.run pins s σ H R I)⟩
/-- a list or a tuple -/
def Sq (K : PySem.W.Frag) (H : Hp) (a : Addr) (xs : List V) : Prop := SqL K H a xs ∨ SqT K H a xs
theorem SqT.up {K : PySem.W.Frag} {H H' : Hp} {a : Addr} {xs : List V} (h : SqT K H a xs) (e : Same H H') : SqT K H' a xs :=
  h.elim (fun h => .inl (h.elim (fun h => .inl (e _ _ h)) fun ⟨o, h⟩ => .inr ⟨o, e _ _ h⟩)) fun h => .inr h
theorem SqL.up {K : PySem.W.Frag} {H H' : Hp} {a : Addr} {xs : List V} (h : SqL K H a xs) (e : Same H H') : SqL K H' a xs :=
  h.elim (fun h => .inl (h.elim (fun h => .inl (e _ _ h)) fun ⟨o, h⟩ => .inr ⟨o, e _ _ h⟩)) fun h => .inr h
theorem Sq.up {K : PySem.W.Frag} {H H' : Hp} {a : Addr} {xs : List V} (h : Sq K H a xs) (e : Same H H') : Sq K H' a xs := h.imp (fun h => SqL.up h e) fun h => SqT.up h e
theorem walk_l {K : PySem.W.Frag} {a : Addr} {xs : List V} : Walk (Itl K a) xs.length (fun H => SqL K H a xs) (YAt xs) :=
  ⟨fun i H hi q => ⟨xs, xs[i], q, by simp [hi]⟩, fun H q => ⟨xs, q, Nat.le_refl _⟩, fun i H x H' hi q y => ⟨y.1, y.2 xs q⟩⟩
theorem walk_t {K : PySem.W.Frag} {a : Addr} {xs : List V} : Walk (Itt K a) xs.length (fun H => SqT K H a xs) (YAt xs) :=
  ⟨fun i H hi q => ⟨xs, xs[i], q, by simp [hi]⟩, fun H q => ⟨xs, q, Nat.le_refl _⟩, fun i H x H' hi q y => ⟨y.1, y.2 xs q⟩⟩
/-- how a value that is a list or a tuple of xs stands, as one of the two -/
inductive Kind where
  | l | t
def Sk (K : PySem.W.Frag) (k : Kind) (H : Hp) (a : Addr) (xs : List V) : Prop := match k with
  | .l => SqL K H a xs
  | .t => SqT K H a xs
theorem Sk.sq {K : PySem.W.Frag} {k : Kind} {H : Hp} {a : Addr} {xs : List V} (h : Sk K k H a xs) : Sq K H a xs := by
  cases k
  · exact .inl h
  · exact .inr h
theorem Sk.up {K : PySem.W.Frag} {k : Kind} {H H' : Hp} {a : Addr} {xs : List V} (h : Sk K k H a xs) (e : Same H H') : Sk K k H' a xs := by
  cases k
  · exact SqL.up h e
  · exact SqT.up h e
theorem Sq.kind {K : PySem.W.Frag} {H : Hp} {a : Addr} {xs : List V} (h : Sq K H a xs) : ∃ k, Sk K k H a xs := h.elim (fun h => ⟨.l, h⟩) fun h => ⟨.t, h⟩
def ItSq (K : PySem.W.Frag) (k : Kind) (a : Addr) : It := match k with
  | .l => Itl K a
  | .t => Itt K a
theorem walk_k {K : PySem.W.Frag} {k : Kind} {a : Addr} {xs : List V} : Walk (ItSq K k a) xs.length (fun H => Sk K k H a xs) (YAt xs) := by
  cases k
  · exact walk_l
  · exact walk_t
/-- a walk over a list or a tuple -/
def iSq (K : PySem.W.Frag) (tl : TE) : TI := fun σ H R => ∃ k : Kind, tl σ H fun x H1 => ∃ a, x = .ref a ∧ (∃ xs, Sk K k H1 a xs) ∧ R (ItSq K k a) H1
theorem pi_sq {X : Cx} {tg l : Expr} {tl : TE} (hl : PE X l tl) : PI X tg l (iSq X.K tl) := by
  refine ⟨fun pins s σ H R I ⟨k, h⟩ => ?_⟩
  cases k
  · exact (pi_list hl).run pins s σ H R I h
  · exact (pi_tup hl).run pins s σ H R I h
/-! ### comprehensions -/
section
variable {J : It} {n : Nat} {G : Hp → Prop} {xs : List V} {g : TG} {tt : TT} {te : TE} {vs : List Nat} {σ : L2.St} {H1 : Hp} {D : Addr} {Qd : Hp → Prop}
theorem new_ {H : Hp} {p : Addr} {o : HO} (hp : H p = none) : Same H (upd H p o) := fun b u e => by
  rw [upd_ne (ne_of_none e hp)]
  exact e
/-- all but D is as it was -/
def But (D : Addr) (H H' : Hp) : Prop := ∀ c o, c ≠ D → H c = some o → H' c = some o
/-- the values are made one after another, the heap of before stays -/
theorem lc_acc (w : Walk J n G (YAt xs)) (hn : n ≤ sizeLine) (hD : H1 D = none) (hG : ∀ H, Same H1 H → G H) (A : Nat → List V → Hp → Prop) (hl : ∀ i acc H, A i acc H → acc.length ≤ i) (A0 : A 0 [] (upd H1 D (.lst [])))
    (hs : ∀ (i : Nat) (x : V) (H : Hp) (acc : List V) (Φ : V → Hp → Prop) (Ψ : Hp → Prop), i < n → xs[i]? = some x → Same H1 H → H D = some (.lst acc) → A i acc H →
      (∀ y H4, Same H H4 → H4 D = some (.lst acc) → (∀ H5, H5 D = some (.lst (acc ++ [y])) → But D H4 H5 → But D H5 H4 → A (i + 1) (acc ++ [y]) H5) → Φ y H4) →
      g x (wipe σ vs) H fun σ2 H2 => wipe σ2 vs = wipe σ vs ∧ tt σ2 H2 fun b H3 => if b = true then te σ2 H3 Φ else Ψ H3)
    (hd : ∀ H acc, Same H1 H → H D = some (.lst acc) → A n acc H → Qd H) :
    ∃ W : Nat → Nat → Hp → Prop, (∃ m, W 0 m (upd H1 D (.lst []))) ∧ ∀ i m H, W i m H →
      (J.stop i H ∧ Qd H) ∨ (J.go i H ∧ ∃ Nx : Hp → Prop, (∀ H', Nx H' → ∃ m', m' < m ∧ W (i + 1) m' H') ∧ ∀ x H', J.yld i H x H' → g x (wipe σ vs) H' fun σ2 H2 => wipe σ2 vs = wipe σ vs ∧ tt σ2 H2 fun b H3 =>
        if b = true then te σ2 H3 fun y H4 => ∃ acc, H4 D = some (.lst acc) ∧ acc.length < sizeLine ∧ Nx (upd H4 D (.lst (acc ++ [y]))) else Nx H3) := by
  refine lc_it w (fun i H => Same H1 H ∧ ∃ acc, H D = some (.lst acc) ∧ A i acc H) ⟨new_ hD, [], upd_same, A0⟩ (fun i H _ p => hG H p.1) (fun i x H H' hi p y => ?_) fun H p => ?_
  · obtain ⟨rfl, hx⟩ := y
    obtain ⟨sm, acc, hd', ha⟩ := p
    refine hs i x _ acc _ _ hi hx sm hd' ha fun y H4 s4 d4 k => ⟨acc, d4, Nat.lt_of_lt_of_le (Nat.lt_of_le_of_lt (hl _ _ _ ha) hi) hn, fun c o e => ?_, acc ++ [y], upd_same, k _ upd_same (fun c o cd e => ?_) fun c o cd e => ?_⟩
    · rw [upd_ne (ne_of_none e hD)]
      exact s4 _ _ (sm _ _ e)
    · rw [upd_ne cd]
      exact e
    · rw [upd_ne cd] at e
      exact e
  · obtain ⟨sm, acc, hd', ha⟩ := p
    exact hd H acc sm hd' ha
/-- values that do not hang on the heap -/
theorem lc_same (w : Walk J n G (YAt xs)) (hn : n ≤ sizeLine) (hD : H1 D = none) (hG : ∀ H, Same H1 H → G H) (ys : List V) (hy : ys.length = n)
    (hs : ∀ (i : Nat) (x y : V) (H : Hp) (Φ : V → Hp → Prop) (Ψ : Hp → Prop), xs[i]? = some x → ys[i]? = some y → Same H1 H → (∀ H4, Same H H4 → Φ y H4) →
      g x (wipe σ vs) H fun σ2 H2 => wipe σ2 vs = wipe σ vs ∧ tt σ2 H2 fun b H3 => if b = true then te σ2 H3 Φ else Ψ H3)
    (hd : ∀ H, Same H1 H → H D = some (.lst ys) → Qd H) :
    ∃ W : Nat → Nat → Hp → Prop, (∃ m, W 0 m (upd H1 D (.lst []))) ∧ ∀ i m H, W i m H →
      (J.stop i H ∧ Qd H) ∨ (J.go i H ∧ ∃ Nx : Hp → Prop, (∀ H', Nx H' → ∃ m', m' < m ∧ W (i + 1) m' H') ∧ ∀ x H', J.yld i H x H' → g x (wipe σ vs) H' fun σ2 H2 => wipe σ2 vs = wipe σ vs ∧ tt σ2 H2 fun b H3 =>
        if b = true then te σ2 H3 fun y H4 => ∃ acc, H4 D = some (.lst acc) ∧ acc.length < sizeLine ∧ Nx (upd H4 D (.lst (acc ++ [y]))) else Nx H3) := by
  refine lc_acc w hn hD hG (fun i acc _ => acc = ys.take i) (fun i acc H e => by rw [e, List.length_take]; omega) (by rw [List.take_zero]) (fun i x H acc Φ Ψ hi hx sm hd' ha k => ?_) fun H acc sm hd' ha => hd H sm ?_
  · have hi' : i < ys.length := by omega
    have ey : ys[i]? = some ys[i] := List.getElem?_eq_getElem hi'
    refine hs i x ys[i] H Φ Ψ hx ey sm fun H4 s4 => k _ H4 s4 (s4 _ _ hd') fun H5 _ _ _ => ?_
    rw [ha, List.take_add_one, ey]
    rfl
  · rw [hd', ha, ← hy, List.take_length]
end
/-! ### x in an instance with the own method -/
section
variable {X : Cx} {CX : CXT} {k : Nat} {C f : Addr} {fd : FuncData} {ps : List Str} {sp : Sp} {E : XK}
theorem op_inOwn (hs : PySem.W.findIn X.K (.ref C) "__contains__" = some (some (.ref f))) (hf : PySem.W.isFn X.K (.ref f) = true) (F : FnOk X.prog X.w X.K X.mg X.base CX k f fd ps sp) (hr : Room k X.A) (hb : Binds X.K fd ps []) (hx : Passes CX X E) :
    OpR X (compareOp .In) (fun x y H Q => ∃ a dx fs, y = .ref a ∧ H a = some (.ins C dx fs) ∧ sp [.ref a, x] H (fun v H' => ∃ b, v = .bl b ∧ Q (.bl b) H') E) := by
  intro pins s σ H x y v u Q I rx ry h
  obtain ⟨a, dx, fs, rfl, ha, q⟩ := h
  cases ry
  obtain ⟨mA, J, _⟩ := ins_get I.hok ha
  obtain ⟨od, J, _⟩ := J.look
  obtain ⟨m, hF⟩ := I.fr
  refine PySem.W.in_K hF I.ok.mod.kin J hs hf ?_
  refine wpAny_mono (run_fn (us := [.ref a, v]) (vs := [.ref a, x]) F hr hb .nil hx I (.cons rfl (.cons rx .nil)) q) (fun w s' z => ?_) fun _ _ z => z
  obtain ⟨v', H', I', rv, b, rfl, q'⟩ := z
  cases rv
  exact wpAny_truthy_bool ⟨.bl b, H', I', rfl, q'⟩
theorem op_notInOwn (hs : PySem.W.findIn X.K (.ref C) "__contains__" = some (some (.ref f))) (hf : PySem.W.isFn X.K (.ref f) = true) (F : FnOk X.prog X.w X.K X.mg X.base CX k f fd ps sp) (hr : Room k X.A) (hb : Binds X.K fd ps []) (hx : Passes CX X E) :
    OpR X (compareOp .NotIn) (fun x y H Q => ∃ a dx fs, y = .ref a ∧ H a = some (.ins C dx fs) ∧ sp [.ref a, x] H (fun v H' => ∃ b, v = .bl b ∧ Q (.bl (!b)) H') E) := by
  intro pins s σ H x y v u Q I rx ry h
  obtain ⟨a, dx, fs, rfl, ha, q⟩ := h
  cases ry
  obtain ⟨mA, J, _⟩ := ins_get I.hok ha
  obtain ⟨od, J, _⟩ := J.look
  obtain ⟨m, hF⟩ := I.fr
  refine PySem.W.notIn_K hF I.ok.mod.kin J hs hf ?_
  refine wpAny_mono (run_fn (us := [.ref a, v]) (vs := [.ref a, x]) F hr hb .nil hx I (.cons rfl (.cons rx .nil)) q) (fun w s' z => ?_) fun _ _ z => z
  obtain ⟨v', H', I', rv, b, rfl, q'⟩ := z
  cases rv
  exact wpAny_truthy_bool ⟨.bl (!b), H', I', rfl, q'⟩
end
end L2

set_option maxHeartbeats 2000000
namespace L2
open PySem PySem.Spec PyProof.Rows RZ
/-! ### zip, slices of lists and tuples -/
theorem walk_zipT {K : PySem.W.Frag} {a b : Addr} {xs ys : List V} {n : Nat} (hn : n = min xs.length ys.length) : Walk (ItzT K a b) n (fun H => SqT K H a xs ∧ SqT K H b ys) (YPair (fun i => xs[i]?) (fun i => ys[i]?)) :=
  ⟨fun i H hi q => ⟨xs, ys, xs[i]'(by omega), ys[i]'(by omega), q.1, q.2, List.getElem?_eq_getElem _, List.getElem?_eq_getElem _⟩,
    fun H q => ⟨xs, ys, q.1, q.2, by omega⟩, fun i H v H' hi q y => by
      obtain ⟨T, x, y', rfl, hT, rfl, f1, f2⟩ := y
      exact ⟨T, x, y', rfl, hT, rfl, f1 xs q.1, f2 ys q.2⟩⟩
def ItZk (K : PySem.W.Frag) (k : Kind) (a b : Addr) : It := match k with
  | .l => Itz K a b
  | .t => ItzT K a b
theorem walk_zk {K : PySem.W.Frag} {k : Kind} {a b : Addr} {xs ys : List V} {n : Nat} (hn : n = min xs.length ys.length) : Walk (ItZk K k a b) n (fun H => Sk K k H a xs ∧ Sk K k H b ys) (YPair (fun i => xs[i]?) (fun i => ys[i]?)) := by
  cases k
  · exact walk_zip hn
  · exact walk_zipT hn
theorem zip_k {K : PySem.W.Frag} {k : Kind} {H : Hp} {a b : Addr} {xs ys : List V} {R : It → Hp → Prop} (ha : Sk K k H a xs) (hb : Sk K k H b ys) (h : R (ItZk K k a b) H) :
    (SqL K H a xs ∧ SqL K H b ys ∧ R (Itz K a b) H) ∨ (SqT K H a xs ∧ SqT K H b ys ∧ R (ItzT K a b) H) := by
  cases k
  · exact .inl ⟨ha, hb, h⟩
  · exact .inr ⟨ha, hb, h⟩
theorem cut_all {xs : List V} {lo hi : Option Int} (h : HT.sIx xs.length 0 lo = 0 ∧ HT.sIx xs.length xs.length hi = xs.length) : cutV xs lo hi = xs := by
  unfold cutV
  rw [h.1, h.2, List.drop_zero, Nat.sub_zero, List.take_length]
theorem sl_k {K : PySem.W.Frag} {k : Kind} {H : Hp} {a : Addr} {xs : List V} {lo hi : Option Int} {Q : V → Hp → Prop} (ha : Sk K k H a xs) (h : ∀ p H', Same H H' → Sk K k H' p (cutV xs lo hi) → Q (.ref p) H') :
    rSlL K (.ref a) lo hi H Q ∨ rSlA K (.ref a) lo hi H Q := by
  cases k
  · exact .inl ⟨a, xs, rfl, ha, fun p hp => h p _ (new_ hp) (SqL.of upd_same)⟩
  · exact .inr ⟨a, xs, rfl, ha, fun w => h a H (fun _ _ e => e) (by rw [cut_all w]; exact ha), fun _ p hp => h p _ (new_ hp) (SqT.of upd_same)⟩
theorem cut_1 (xs : List V) : cutV xs (some (1 : Int)) none = xs.drop 1 := by
  unfold cutV
  rw [show (1 : Int) = ((1 : Nat) : Int) from rfl, HT.sIx_nat, HT.sIx_none]
  rcases Nat.eq_zero_or_pos xs.length with h | h
  · have : xs = [] := List.length_eq_zero_iff.mp h
    subst this
    rfl
  · rw [Nat.min_eq_left h, List.take_of_length_le (by rw [List.length_drop]; exact Nat.le_refl _)]
theorem cut_to (xs : List V) (n : Nat) : cutV xs none (some (n : Int)) = xs.take n := by
  unfold cutV
  rw [HT.sIx_nat, HT.sIx_none, List.drop_zero, Nat.sub_zero]
  rcases Nat.le_total n xs.length with h | h
  · rw [Nat.min_eq_left h]
  · rw [Nat.min_eq_right h, List.take_length, List.take_of_length_le h]
/-! ### small words -/
theorem take_succ' {α : Type} {l : List α} {i : Nat} {x : α} (h : l[i]? = some x) : l.take (i + 1) = l.take i ++ [x] := by
  rw [List.take_add_one, h]
  rfl
theorem ifD_no {p A B : Prop} [Decidable p] (h : ¬ p) (q : B) : if decide p = true then A else B := by
  rw [decide_eq_false h]
  exact iteF q
theorem ifD_yes {p A B : Prop} [Decidable p] (h : p) (q : A) : if decide p = true then A else B := by
  rw [decide_eq_true h]
  exact iteT q
theorem ifD_2 {p A B : Prop} [Decidable p] (h1 : p → A) (h2 : ¬ p → B) : if decide p = true then A else B := by
  by_cases h : p
  · exact ifD_yes h (h1 h)
  · exact ifD_no h (h2 h)
theorem ifB_2 {b : Bool} {A B : Prop} (h1 : b = true → A) (h2 : b = false → B) : if b = true then A else B := by
  cases b
  · exact iteF (h2 rfl)
  · exact iteT (h1 rfl)
theorem Same.none {H H' : Hp} {x : Addr} (s : Same H H') (h : H' x = Option.none) : H x = Option.none := by
  cases e : H x with
  | none => rfl
  | some o => rw [s _ _ e] at h; cases h
theorem all_true (n : Nat) : (List.replicate n true).all id = true := by
  rw [List.all_eq_true]
  intro x hx
  rw [(List.mem_replicate.mp hx).2]
  rfl
theorem boot_isi : bootBuiltins "isinstance" = some (.builtin "isinstance") := by decide +kernel
theorem boot_int' : bootBuiltins "int" = some (.type "int") := by decide +kernel
theorem boot_bool' : bootBuiltins "bool" = some (.type "bool") := by decide +kernel
theorem boot_tuple' : bootBuiltins "tuple" = some (.type "tuple") := by decide +kernel
theorem boot_list' : bootBuiltins "list" = some (.type "list") := by decide +kernel
theorem boot_all' : bootBuiltins "all" = some (.builtin "all") := by decide +kernel
structure Df (K : PySem.W.Frag) (mg : Str → Option Value) (x : Str) (st : Stmt) (f : Addr) (fd : FuncData) (ps : List Str) : Prop where
  F : Fun K x x st f fd
  B : Binds K fd ps []
  M : mg x = some (.ref f)
def rTupK (K : PySem.W.Frag) : List V → Hp → (V → Hp → Prop) → Prop := fun xs H Q => ∃ p ys, xs = [.ref p] ∧ ((SqL K H p ys ∧ ∀ l, H l = none → Q (.ref l) (upd H l (.tup ys))) ∨ (SqT K H p ys ∧ Q (.ref p) H))
theorem call_tupleK {X : Cx} {K : PySem.W.Frag} (h : X.K = K) : CallR X (.type "tuple") (rTupK K) := h ▸ call_tuple_of
def rLstK (K : PySem.W.Frag) : List V → Hp → (V → Hp → Prop) → Prop := fun xs H Q => ∃ p ys, xs = [.ref p] ∧ (SqL K H p ys ∨ SqT K H p ys) ∧ ∀ l, H l = none → Q (.ref l) (upd H l (.lst ys))
theorem call_listK {X : Cx} {K : PySem.W.Frag} (h : X.K = K) : CallR X (.type "list") (rLstK K) := h ▸ call_list_of
def rLenK (K : PySem.W.Frag) : List V → Hp → (V → Hp → Prop) → Prop := fun xs H Q => ∃ p ys, xs = [.ref p] ∧ (SqL K H p ys ∨ SqT K H p ys) ∧ Q (.int ys.length) H
theorem call_lenK {X : Cx} {K : PySem.W.Frag} (h : X.K = K) : CallR X (.builtin "len") (rLenK K) := h ▸ call_len_seq
def rIxTK (K : PySem.W.Frag) : R2 := fun x y H Q => ∃ p xs i v, x = .ref p ∧ y = .int i ∧ SqT K H p xs ∧ atI xs i = some v ∧ Q v H
theorem ix_tupK {X : Cx} {K : PySem.W.Frag} (h : X.K = K) : IxR X (rIxTK K) := h ▸ ix_tup
/-! ### what stands at each place of a list of references -/
def Ea {α : Type} (H : Hp) (P : Hp → Addr → α → Prop) (xs : List V) (ds : List α) : Prop := xs.length = ds.length ∧ ∀ (i : Nat) (x : V) (r : α), xs[i]? = some x → ds[i]? = some r → ∃ c, x = .ref c ∧ P H c r
section
variable {α : Type} {H H' : Hp} {P P' : Hp → Addr → α → Prop} {xs ys : List V} {ds es : List α} {c : Addr} {r : α}
theorem Ea.imp (e : Ea H P xs ds) (f : ∀ c r, P H c r → P' H' c r) : Ea H' P' xs ds := ⟨e.1, fun i x r h1 h2 => let ⟨c, hx, q⟩ := e.2 i x r h1 h2; ⟨c, hx, f c r q⟩⟩
theorem Ea.nil : Ea H P [] [] := ⟨rfl, fun i x r h _ => by simp at h⟩
theorem Ea.append (e : Ea H P xs ds) (e' : Ea H P ys es) : Ea H P (xs ++ ys) (ds ++ es) := by
  refine ⟨by rw [List.length_append, List.length_append, e.1, e'.1], fun i x r h1 h2 => ?_⟩
  rcases Nat.lt_or_ge i xs.length with hi | hi
  · rw [List.getElem?_append_left hi] at h1
    rw [List.getElem?_append_left (by rw [← e.1]; exact hi)] at h2
    exact e.2 i x r h1 h2
  · rw [List.getElem?_append_right hi] at h1
    rw [List.getElem?_append_right (by rw [← e.1]; exact hi), ← e.1] at h2
    exact e'.2 _ x r h1 h2
theorem Ea.one (q : P H c r) : Ea H P [.ref c] [r] := by
  refine ⟨rfl, fun i x r' h1 h2 => ?_⟩
  match i, h1, h2 with
  | 0, h1, h2 =>
    cases h1
    cases h2
    exact ⟨c, rfl, q⟩
  | (j + 1), h1, _ => simp at h1
theorem Ea.push (e : Ea H P xs ds) (q : P H c r) : Ea H P (xs ++ [.ref c]) (ds ++ [r]) := e.append (.one q)
theorem Ea.get (e : Ea H P xs ds) {i : Nat} {r : α} (h : ds[i]? = some r) : ∃ c, xs[i]? = some (.ref c) ∧ P H c r := by
  have hi : i < xs.length := by rw [e.1]; exact (List.getElem?_eq_some_iff.mp h).1
  obtain ⟨c, hc, q⟩ := e.2 i _ r (List.getElem?_eq_getElem hi) h
  exact ⟨c, by rw [List.getElem?_eq_getElem hi, hc], q⟩
theorem Ea.at_ (e : Ea H P xs ds) {i : Nat} {x : V} (h : xs[i]? = some x) : ∃ c r, x = .ref c ∧ ds[i]? = some r ∧ P H c r := by
  have hi : i < ds.length := by rw [← e.1]; exact (List.getElem?_eq_some_iff.mp h).1
  obtain ⟨c, hc, q⟩ := e.2 i _ _ h (List.getElem?_eq_getElem hi)
  exact ⟨c, _, hc, List.getElem?_eq_getElem hi, q⟩
end
/-- a tuple at c of what r is written as -/
def TupOf {α : Type} (f : α → List V) (H : Hp) (c : Addr) (r : α) : Prop := H c = some (.tup (f r))
section
variable {α : Type} {f : α → List V} {H H' : Hp} {xs : List V} {ds : List α} {c p C dx : Addr} {r : α}
theorem TupOf.lst {ys zs : List V} (q : TupOf f H c r) (hD : H p = some (.lst ys)) : TupOf f (upd H p (.lst zs)) c r := by
  unfold TupOf
  rw [upd_ne (ne_of (H := H) q hD (by intro z; cases z))]
  exact q
theorem TupOf.ins {fs : List (Str × V)} {o : HO} (q : TupOf f H c r) (hp : H p = some (.ins C dx fs)) : TupOf f (upd H p o) c r := by
  unfold TupOf
  rw [upd_ne (ne_of (H := H) q hp (by intro z; cases z))]
  exact q
theorem TupOf.but {ys : List V} (q : TupOf f H c r) (hD : H p = some (.lst ys)) (b : But p H H') : TupOf f H' c r := b _ _ (ne_of (H := H) q hD (by intro z; cases z)) q
theorem Ea.same (e : Ea H (TupOf f) xs ds) (s : Same H H') : Ea H' (TupOf f) xs ds := e.imp fun c r q => s _ _ q
end
end L2

set_option maxHeartbeats 4000000
namespace L2
open PySem PySem.Spec PyProof.Rows
/-! ### static methods -/
theorem entry_sm : entryFor table "staticmethod.__get__" = some Builtin.«staticmethod.__get__» := entryFor_of_tree rfl
theorem args_sm (a b c : Value) : argsOk "staticmethod.__get__" { pos := [a, b, c] } := rfl
theorem slot_sm : Slot "staticmethod" (Str.ofString "__get__") "staticmethod.__get__" := by
  refine Slot.of (owner := "staticmethod") (n := "__get__") ?_ ?_ ?_ ?_ ?_ ?_
  · rw [typeLookup_type, builtinLookup_eq_fast]
    rfl
  · decide +kernel
  · decide +kernel
  · decide +kernel
  · left; decide +kernel
  · rw [isSubtype_type]
    rfl
theorem sm_get {prog : Program} {w : World} {A : Around} {s : Shared} {K : PySem.W.Frag} {p C : Addr} {R : Result → Shared → Prop} {f obj : Value} {rest : List Value} (h : K.In s.heap) (hr : PySem.W.recIn K p "staticmethod" = some (f :: rest)) (k : R (.ok (.ret f)) s) :
    codeAny (model prog w) A (.call (.builtin "staticmethod.__get__") { pos := [.ref p, obj, .ref C] }) R s := by
  obtain ⟨d, sl, e⟩ := PySem.W.rec_of h hr
  refine codeAny_call_builtin slot_sm.plain entry_sm (slot_sm.check _ _ _ _ _ _ _ _ ⟨_, e, rfl⟩ (args_sm _ _ _) ?_)
  show wpAny _ _ (Builtin.«staticmethod.__get__» { pos := [.ref p, obj, .ref C] }) _ _ s
  unfold Builtin.«staticmethod.__get__»
  rw [PySem.W.dga_cls]
  refine wpAny_bind (PySem.W.nd_pure ?_)
  refine wpAny_bind ?_
  unfold field
  refine wpAny_bind ?_
  unfold fieldsOf
  refine wpAny_bind (PySem.W.nd_load e ?_)
  refine PySem.W.nd_pure ?_
  refine wpAny_pure ?_
  have e0 : (f :: rest).toArray[0]? = some f := by simp
  rw [e0]
  refine wpAny_pure ?_
  unfold ret
  refine wpAny_pure ?_
  exact k
structure SMet (K : PySem.W.Frag) (C : Addr) (mc : Value) (m : Str) (p g : Addr) : Prop where
  at_ : PySem.W.findCls K (.ref C) mc m = some (.get (.builtin "staticmethod.__get__") (.ref p) .none (.ref C))
  rc : ∃ rest, PySem.W.recIn K p "staticmethod" = some (.ref g :: rest)
  hi : PySem.W.handedIn (.ref g) = true
theorem getsm_ok {X : Cx} {pins : List (Addr × Obj)} {σ : L2.St} {H : Hp} {s : Shared} {C p g : Addr} {mc : Value} {m : Str} {A : Around} {E : Value → Shared → Prop} {b : Bool} {Q : Value → Shared → Prop}
    (I : L2.Inv X pins σ H s) (r : ClX.CRead X.K C mc) (c : SMet X.K C mc m p g) (k : ∀ s', L2.Inv X pins σ H s' → Q (.ref g) s') : wpAny (model X.prog X.w) A (getAttr (.ref C) m b) Q E s := by
  obtain ⟨rest, hr⟩ := c.rc
  exact PySem.W.cls_bind I.kIn r.rd c.at_ (wpAny_call (sm_get I.kIn hr (PySem.W.handed_on c.hi (k _ (I.tok _)))))
theorem getmethsm_ok {X : Cx} {pins : List (Addr × Obj)} {σ : L2.St} {H : Hp} {s : Shared} {C p g : Addr} {mc : Value} {m : Str} {A : Around} {E : Value → Shared → Prop} {pl : Sem Bool} {Q : Value × List Value → Shared → Prop}
    (I : L2.Inv X pins σ H s) (r : ClX.CRead X.K C mc) (c : SMet X.K C mc m p g) (k : ∀ s', L2.Inv X pins σ H s' → Q (.ref g, []) s') : wpAny (model X.prog X.w) A (getMethod (.ref C) m pl) Q E s :=
  PySem.W.method_cls I.kIn r.ga (getsm_ok I r c k)
def tSMeth (C : Addr) (sp : Sp) (E : XK) (ta : TE) (t : TA) : TE := fun σ H Q => ta σ H fun x H1 => x = .ref C ∧ t σ H1 fun vs H2 => sp vs H2 Q E
theorem pe_smeth {X : Cx} {CX : CXT} {k : Nat} {C p g : Addr} {fd : FuncData} {ps : List Str} {mc : Value} {sp : Sp} {E : XK} {o e : PySem.Expr} {es : List PySem.Expr} {m : Str} {pos apos : Pos} {ta : TE} {t : TA} {pl : Sem Bool}
    (ho : PE X o ta) (r : ClX.CRead X.K C mc) (c : SMet X.K C mc m p g) (F : FnOk X.prog X.w X.K X.mg X.base CX k g fd ps sp) (hr : Room k X.A) (kp : PySem.W.keepIn X.K (.ref g) = true) (hb : Binds X.K fd ps []) (hx : Passes CX X E) (ha : PA X (e :: es) t)
    (hs : starEach (e :: es) X.env = (false, eval e X.env) :: starEach es X.env := by rfl) (hpl : ((backTo pos (starEach es X.env)).any fun x => x.fst) = false := by rfl)
    (he : eval ((o.Attribute m apos).Call (e :: es) [] pos) X.env = (do
      let ov ← eval o X.env
      standAt apos.atName
      let __x ← holding [ov] (getMethod ov m pl)
      match __x with
      | (f, first) => callWith pos f first (backTo pos (starEach (e :: es) X.env)) (backToKw pos (keywordEach [] X.env))) := by rfl) :
    PE X ((o.Attribute m apos).Call (e :: es) [] pos) (tSMeth C sp E ta t) := by
  refine ⟨fun pins s σ H Q I h => PySem.W.methodCall_KW (pl := pl) (thn (ho.run pins s σ H _ I h) fun v s1 q => ?_) he⟩
  obtain ⟨x, H1, I1, rx, rfl, q⟩ := q
  cases rx
  refine getmethsm_ok I1 r c fun s2 I2 => ?_
  refine PySem.W.callWith_K I2.ok.mod.kin kp (thn (ha.run pos pins s2 σ H1 _ I2 q) fun us s3 q3 => ?_) hs hpl
  obtain ⟨vs, H3, I3, rv, q3⟩ := q3
  exact ⟨I3.kIn, run_fn F hr hb .nil hx I3 rv (by simpa using q3)⟩
end L2

set_option maxHeartbeats 2000000
namespace PLow
open PySem PySem.W PySem.Calls PyProof.Rows
section
variable {prog : Program} {w : World} {M : Model} {A : Around} {E : Value → Shared → Prop} {s : Shared} {K : Frag} {x C L f : Addr} {h₀ : Heap} {m : Str → Option Value} {ox : Obj} {od : Option Obj} {nm : String}

/-- an int's own slot declines an instance -/
theorem add_declines {a : Int} {t : Tok} {R : PySem.Fin → Shared → Prop} (ho : s.heap.get? x = some ox) (hd : ∀ v, ox.data ≠ .prim v) (h : R (.done (.ret .notImplemented)) s) :
    wpAny (model prog w) A (Builtin.«int.__add__» ⟨[Value.int a t, Value.ref x], []⟩) R E s := by
  obtain ⟨hp, g, d, tk, os⟩ := s
  wp_walk
  split
  · rename_i e
    exact absurd e (hd _)
  · wp_walk
    exact h
theorem sub_declines {a : Int} {t : Tok} {R : PySem.Fin → Shared → Prop} (ho : s.heap.get? x = some ox) (hd : ∀ v, ox.data ≠ .prim v) (h : R (.done (.ret .notImplemented)) s) :
    wpAny (model prog w) A (Builtin.«int.__sub__» ⟨[Value.int a t, Value.ref x], []⟩) R E s := by
  obtain ⟨hp, g, d, tk, os⟩ := s
  wp_walk
  split
  · rename_i e
    exact absurd e (hd _)
  · wp_walk
    exact h
theorem mul_declines {a : Int} {t : Tok} {R : PySem.Fin → Shared → Prop} (ho : s.heap.get? x = some ox) (hd : ∀ v, ox.data ≠ .prim v) (h : R (.done (.ret .notImplemented)) s) :
    wpAny (model prog w) A (Builtin.«int.__mul__» ⟨[Value.int a t, Value.ref x], []⟩) R E s := by
  obtain ⟨hp, g, d, tk, os⟩ := s
  wp_walk
  split
  · rename_i e
    exact absurd e (hd _)
  · wp_walk
    exact h

/-- the left operand's own slot, the right one declines: an int and an instance with the reflected method -/
theorem rbin {op : Operator} {id : String} {a : Int} {t : Tok} {B : Builtin} {Q : Value → Shared → Prop} {g : Addr} (F : Fr h₀ L s.heap m) (X₀ : K.In h₀) (I : InstAt s.heap x ox C od) (hc : selfFirst K C = true)
    (hs : findIn K (.ref C) (PySem.dunder op.info.2) = some (some (.ref g))) (hr : findIn K (.ref C) (dunderR op.info.2) = some (some (.ref f))) (hf : isFn K (.ref f) = true)
    (hfT : fillsNumberSlot (.type "int") op.info.2 = pure true) (hsub : subIn K (.ref C) (.type "int") = some false)
    (slot : Slot "int" (PySem.dunder op.info.2) id) (entry : entryFor table id = some B) (args : argsOk id ⟨[Value.int a t, .ref x], []⟩)
    (dec : ∀ (A : Around) (E : Value → Shared → Prop) (R : PySem.Fin → Shared → Prop), R (.done (.ret .notImplemented)) s → wpAny (model prog w) A (B ⟨[Value.int a t, .ref x], []⟩) R E s)
    (h : wpAny (model prog w) A (call (.ref f) [.ref x, .int a t]) (PySem.W.CmpBack Q) E s) : wpAny (model prog w) A (binaryOp op (.int a t) (.ref x)) Q E s := by
  have X := X₀.keeps F.keep
  obtain ⟨cd, rest, hcd, hm⟩ := ksp_first hc
  rcases hi : op.info with ⟨sym, nm'⟩
  rw [hi] at hs hr hfT slot
  dsimp only at hs hr hfT slot
  have one := ksp_try X I hr hf h
  have L0 : Looks (model prog w) s.heap (typeOf (.int a t)) (.type "int") := Looks.of_pure rfl
  have L1 : Looks (model prog w) s.heap (typeOf (.ref x)) (.ref C) := I.type
  have L3 : Looks (model prog w) s.heap (fillsNumberSlot (.ref C) nm') true := fills_K X hcd hm hs
  have L5 : Looks (model prog w) s.heap (isSubtype (.ref C) (.type "int")) false := looks_subIn X hsub
  have hne : (Value.type "int" == Value.ref C) = false := Bool.eq_false_iff.mpr fun q => by cases beq_iff_eq.mp q
  have hpy : numberSlotInPython (.type "int") nm' = pure false := rfl
  simp only [binaryOp, hi]
  refine wpAny_holding (wpAny_bind ?_)
  unfold binaryOp1
  refine wpAny_bind (L0.here (wpAny_bind (L1.here (wpAny_bind (wpAny_of_eq hfT ?_)))))
  simp only [hne, Bool.false_eq_true, if_false]
  refine wpAny_bind (L3.here ?_)
  simp only [Bool.and_self, if_true]
  refine wpAny_bind (L5.here ?_)
  simp only [Bool.false_eq_true, if_false, pure_bind, Bool.not_false, Bool.and_self, if_true, hpy]
  refine wpAny_bind (wpAny_tryMethod_declines (id := id) (typeIs_int s a t) slot ?_)
  refine GQ.call_here slot (typeIs_int s a t) entry args (dec _ _ _ ?_)
  refine ⟨rfl, ?_⟩
  refine wpAny_bind (wpAny_mono one (fun r s' hr' => ?_) fun _ _ e => e)
  obtain ⟨v, rfl, hq⟩ := hr'
  dsimp only
  exact wpAny_bind (wpAny_rule (wpAny_pure (wpAny_pure hq)))

/-- abs(x) by the own method -/
theorem abs_own {Q : Value → Shared → Prop} (F : Fr h₀ L s.heap m) (X₀ : K.In h₀) (I : InstAt s.heap x ox C od) (hs : findIn K (.ref C) "__abs__" = some (some (.ref f))) (hf : isFn K (.ref f) = true)
    (h : wpAny (model prog w) A.in1 (call (.ref f) [.ref x]) Q E s) : wpAny (model prog w) A (call (.builtin "abs") [.ref x]) Q E s := by
  refine call_function_entry kind_abs plain_abs entry_abs (args_abs _) ?_
  unfold Builtin.«abs»
  refine wpAny_bind (m := oneArg "abs" _) (wpAny_pure ?_)
  refine wpAny_bind (special_fn (X₀.keeps F.keep) I hs (beq_iff_eq.mp hf) ?_)
  exact wpAny_mono h (fun v s' q => wpAny_pure ⟨v, rfl, q⟩) fun _ _ z => z
end
end PLow

namespace L2
open PySem PySem.Spec PyProof.Rows
section
variable {X : Cx} {CX : CXT} {k : Nat} {C f g : Addr} {fd : FuncData} {ps : List Str} {sp : Sp} {E : XK} {op : Operator}
theorem cmpBack_of {pins : List (Addr × Obj)} {σ : St} {Q : VK} {u : Value} {s' : Shared} (h : EP X pins σ Q u s') : PySem.W.CmpBack (EP X pins σ Q) u s' := by
  obtain ⟨v, H', I, r, q⟩ := id h
  cases v with
  | non => cases (show u = Value.none from r); exact h
  | bl b => cases (show u = Value.bool b from r); exact h
  | int i => obtain ⟨t, e⟩ := (show ∃ t, u = Value.int i t from r); cases e; exact h
  | str x => obtain ⟨t, e⟩ := (show ∃ t, u = Value.str x t from r); cases e; exact h
  | byt b => obtain ⟨t, e⟩ := (show ∃ t, u = Value.bytes b t from r); cases e; exact h
  | flt b => obtain ⟨t, e⟩ := (show ∃ t, u = Value.float b t from r); cases e; exact h
  | ref a => cases (show u = Value.ref a from r); exact h
  | ty n => cases (show u = Value.type n from r); exact h
/-- what of the class an own operator asks: f the method, g the reflected one -/
structure OwnOp (K : PySem.W.Frag) (C f g : Addr) (op : Operator) : Prop where
  first : PySem.W.selfFirst K C = true
  at_ : PySem.W.findIn K (.ref C) (PySem.dunder op.info.2) = some (some (.ref f))
  fn : PySem.W.isFn K (.ref f) = true
  ar : PySem.W.findIn K (.ref C) (dunderR op.info.2) = some (some (.ref g))
  fr : PySem.W.isFn K (.ref g) = true
  sub : PySem.W.subIn K (.type "int") (.ref C) = some false
  sub' : PySem.W.subIn K (.ref C) (.type "int") = some false
/-- x op y, x an instance with the own method, y an instance of the same class -/
theorem op_ownR (O : OwnOp X.K C f g op) (F : FnOk X.prog X.w X.K X.mg X.base CX k f fd ps sp) (hr : Room k X.A) (hb : Binds X.K fd ps []) (hx : Passes CX X E) :
    OpR X (binaryOp op) (fun x y H Q => ∃ a b dx dy fs gs, x = .ref a ∧ y = .ref b ∧ H a = some (.ins C dx fs) ∧ H b = some (.ins C dy gs) ∧ sp [.ref a, .ref b] H Q E) := by
  intro pins s σ H x y v u Q I rx ry h
  obtain ⟨a, b, dx, dy, fs, gs, rfl, rfl, ha, hb', q⟩ := h
  cases rx
  cases ry
  obtain ⟨mA, J, _⟩ := ins_get I.hok ha
  obtain ⟨mB, J', _⟩ := ins_get I.hok hb'
  obtain ⟨od, J, _⟩ := J.look
  obtain ⟨od', J', _⟩ := J'.look
  obtain ⟨m, hF⟩ := I.fr
  refine PySem.W.binop_K hF I.ok.mod.kin J J'.type O.first O.at_ O.fn ?_
  exact wpAny_mono (run_fn (us := [.ref a, .ref b]) (vs := [.ref a, .ref b]) F hr hb .nil hx I (.cons rfl (.cons rfl .nil)) q) (fun _ _ z => cmpBack_of z) fun _ _ z => z
/-- x op i, i an int -/
theorem op_ownI {fo ro : Option Value} (O : OwnOp X.K C f g op) (h1 : PySem.W.findIn X.K (.type "int") (PySem.dunder op.info.2) = some fo) (h2 : PySem.W.findIn X.K (.type "int") (dunderR op.info.2) = some ro)
    (F : FnOk X.prog X.w X.K X.mg X.base CX k f fd ps sp) (hr : Room k X.A) (hb : Binds X.K fd ps []) (hx : Passes CX X E) :
    OpR X (binaryOp op) (fun x y H Q => ∃ a i dx fs, x = .ref a ∧ y = .int i ∧ H a = some (.ins C dx fs) ∧ sp [.ref a, .int i] H Q E) := by
  intro pins s σ H x y v u Q I rx ry h
  obtain ⟨a, i, dx, fs, rfl, rfl, ha, q⟩ := h
  cases rx
  obtain ⟨t, rfl⟩ := ry
  obtain ⟨mA, J, _⟩ := ins_get I.hok ha
  obtain ⟨od, J, _⟩ := J.look
  obtain ⟨m, hF⟩ := I.fr
  refine PySem.W.ksp_binT hF I.ok.mod.kin J rfl O.first O.at_ O.fn O.ar (.inr ⟨_, rfl⟩) h1 h2 O.sub ?_
  exact wpAny_mono (run_fn (us := [.ref a, .int i t]) (vs := [.ref a, .int i]) F hr hb .nil hx I (.cons rfl (.cons ⟨t, rfl⟩ .nil)) q) (fun _ _ z => cmpBack_of z) fun _ _ z => z
/-- i op x, i an int: the reflected method, F of g -/
theorem op_ownL {id : String} {B : Builtin} (O : OwnOp X.K C f g op) (hfT : fillsNumberSlot (.type "int") op.info.2 = pure true)
    (slot : PySem.Slot "int" (PySem.dunder op.info.2) id) (entry : entryFor table id = some B) (args : ∀ i t x, argsOk id ⟨[Value.int i t, .ref x], []⟩)
    (dec : ∀ (i : Int) (t : Tok) (x : Addr) (ox : Obj) (s : Shared), s.heap.get? x = some ox → (∀ v, ox.data ≠ .prim v) → ∀ (A : Around) (E : Value → Shared → Prop) (R : PySem.Fin → Shared → Prop), R (.done (.ret .notImplemented)) s →
      wpAny (model X.prog X.w) A (B ⟨[Value.int i t, .ref x], []⟩) R E s)
    (F : FnOk X.prog X.w X.K X.mg X.base CX k g fd ps sp) (hr : Room k X.A) (hb : Binds X.K fd ps []) (hx : Passes CX X E) :
    OpR X (binaryOp op) (fun x y H Q => ∃ a i dx fs, x = .int i ∧ y = .ref a ∧ H a = some (.ins C dx fs) ∧ sp [.ref a, .int i] H Q E) := by
  intro pins s σ H x y v u Q I rx ry h
  obtain ⟨a, i, dx, fs, rfl, rfl, ha, q⟩ := h
  obtain ⟨t, rfl⟩ := rx
  cases ry
  obtain ⟨mA, J, _⟩ := ins_get I.hok ha
  have ho := J.obj
  obtain ⟨od, J, _⟩ := J.look
  obtain ⟨m, hF⟩ := I.fr
  refine PLow.rbin hF I.ok.mod.kin J O.first O.at_ O.ar O.fr hfT O.sub' slot entry (args _ _ _) (dec i t a _ s ho (fun v z => by simp [PySem.W.instObj] at z)) ?_
  exact wpAny_mono (run_fn (us := [.ref a, .int i t]) (vs := [.ref a, .int i]) F hr hb .nil hx I (.cons rfl (.cons ⟨t, rfl⟩ .nil)) q) (fun _ _ z => cmpBack_of z) fun _ _ z => z
/-- -x -/
theorem un_own (hs : PySem.W.findIn X.K (.ref C) "__neg__" = some (some (.ref f))) (hf : PySem.W.isFn X.K (.ref f) = true) (F : FnOk X.prog X.w X.K X.mg X.base CX k f fd ps sp) (hr : Room k X.A) (hb : Binds X.K fd ps []) (hx : Passes CX X E) :
    UnR X (unaryOp .USub) (fun x H Q => ∃ a dx fs, x = .ref a ∧ H a = some (.ins C dx fs) ∧ sp [.ref a] H Q E) := by
  intro pins s σ H x v Q I rx h
  obtain ⟨a, dx, fs, rfl, ha, q⟩ := h
  cases rx
  obtain ⟨mA, J, _⟩ := ins_get I.hok ha
  obtain ⟨od, J, _⟩ := J.look
  obtain ⟨m, hF⟩ := I.fr
  refine PySem.W.ksp_neg hF I.ok.mod.kin J hs hf ?_
  exact run_fn (us := [.ref a]) (vs := [.ref a]) F hr hb .nil hx I (.cons rfl .nil) q
/-- abs(x) -/
theorem call_absOwn (hs : PySem.W.findIn X.K (.ref C) "__abs__" = some (some (.ref f))) (hf : PySem.W.isFn X.K (.ref f) = true) (F : FnOk X.prog X.w X.K X.mg X.base CX k f fd ps sp) (hr : Room (k + 1) X.A) (hb : Binds X.K fd ps []) (hx : Passes CX X E) :
    CallR X (.builtin "abs") (fun xs H Q => ∃ a dx fs, xs = [.ref a] ∧ H a = some (.ins C dx fs) ∧ sp [.ref a] H Q E) := by
  intro pins s σ H xs us Q I r h
  obtain ⟨a, dx, fs, rfl, ha, q⟩ := h
  cases r with
  | cons r1 r2 =>
    cases r2
    cases r1
    obtain ⟨mA, J, _⟩ := ins_get I.hok ha
    obtain ⟨od, J, _⟩ := J.look
    obtain ⟨m, hF⟩ := I.fr
    refine PLow.abs_own hF I.ok.mod.kin J hs hf ?_
    have hl := F.len _ _ _ _ q
    have r2 : Vals [V.ref a] [Value.ref a] := .cons rfl .nil
    refine wpAny_call (codeAny_mono (F.run X.A.in1 X.stack s H ⟨[.ref a], []⟩ [.ref a] [.ref a] Q E hr.in1 I.env0.in1 (by
      have := hb s [.ref a] I.kIn (by simpa using hl)
      simpa using this) r2 q) fun r s' hq => ?_)
    cases r with
    | error e => exact hx pins σ H s e s' I hq
    | ok fl =>
      cases fl with
      | ret w => exact I.after hq
      | next => exact False.elim hq
      | brk => exact False.elim hq
      | cont => exact False.elim hq
/-- // by any divisor but 0 below 2 ^ 9000 in size -/
def CDivS (_ j : Int) : Prop := j ≠ 0 ∧ j.natAbs.log2 < 9000
theorem op_fdivS : OpR X (binaryOp .FloorDiv) (rI CDivS fun i j => .int (i.fdiv j)) := opI fun i j _ _ _ _ _ hc q =>
  floordiv_int hc.1 q (.inl (PyProof.noPylong_of_log2 hc.2))
end
end L2

set_option maxHeartbeats 2000000
namespace PLow
open PySem PySem.W PySem.Calls PyProof.Rows
section
variable {prog : Program} {w : World} {A : Around} {E : Value → Shared → Prop} {s : Shared} {K : Frag} {x C L f : Addr} {h₀ : Heap} {m : Str → Option Value} {ox : Obj} {od : Option Obj}
/-- bool(x) by the own method -/
theorem bool_own {Q : Value → Shared → Prop} (F : Fr h₀ L s.heap m) (X₀ : K.In h₀) (I : InstAt s.heap x ox C od) (hs : findIn K (.ref C) "__bool__" = some (some (.ref f))) (hf : isFn K (.ref f) = true)
    (h : wpAny (model prog w) A.in1.in1 (call (.ref f) [.ref x]) (PySem.W.BoolBack fun b s' => Q (.bool b) s') E s) : wpAny (model prog w) A (call (.type "bool") [.ref x]) Q E s := by
  refine callType_newIn (S := fun A R s' => s' = s ∧ wpAny (model prog w) A.in1 (call (.ref f) [.ref x]) (PySem.W.BoolBack fun b s' => R (.ok (.ret (.bool b))) s') (fun e s' => R (.error e) s') s) PySem.F.called_bool PySem.F.newNe_bool (PySem.F.typeCall_bool_1 _) (PySem.F.newCall_bool_1 _)
    (fun obj => PySem.F.args_object_init_2 obj _) PySem.F.entry_bool_new ?_ ⟨rfl, ?_⟩
  · rintro A R s' ⟨rfl, hc⟩
    have tr : ∀ {Q' : Bool → Shared → Prop}, wpAny (model prog w) A.in1 (call (.ref f) [.ref x]) (PySem.W.BoolBack Q') (fun e s' => R (.error e) s') s' → wpAny (model prog w) A.in1 (truthy (.ref x)) Q' (fun e s' => R (.error e) s') s' := fun z => truthy_K F X₀ I hs hf z
    have f1 := PySem.F.conv_sub_bool
    refine wpAny_bind (m := isType _) (wpAny_pure ?_)
    dsimp only
    simp only [Bool.not_true, Bool.false_eq_true, if_false]
    refine wpAny_bind (wpAny_of_eq f1 ?_)
    simp only [Bool.not_true, Bool.false_eq_true, if_false]
    refine wpAny_bind (m := someArgs _ _ _ _) (wpAny_pure ?_)
    dsimp only
    refine wpAny_bind (tr (wpAny_mono hc (fun v s' hv => ?_) fun _ _ z => z))
    cases v <;> first | exact hv.elim | skip
    exact wpAny_pure hv
  · refine wpAny_mono h (fun v s' hv => ?_) fun _ _ z => z
    cases v <;> first | exact hv.elim | skip
    exact ⟨rfl, hv⟩
end
end PLow
namespace L2
open PySem PySem.Spec PyProof.Rows
section
variable {X : Cx} {CX : CXT} {k : Nat} {C f : Addr} {fd : FuncData} {ps : List Str} {sp : Sp} {E : XK} {op : CmpOp}
/-- an own comparison -/
structure OwnC (K : PySem.W.Frag) (C f : Addr) (op : CmpOp) : Prop where
  at_ : PySem.W.findIn K (.ref C) (cmpInfo op).2.1 = some (some (.ref f))
  fn : PySem.W.isFn K (.ref f) = true
  sub : PySem.W.subIn K (.type "int") (.ref C) = some false
theorem rich_own (O : OwnC X.K C f op) (F : FnOk X.prog X.w X.K X.mg X.base CX k f fd ps sp) (hr : Room k X.A) (hb : Binds X.K fd ps []) (hx : Passes CX X E) {pins : List (Addr × Obj)} {s : Shared} {σ : St} {H : Hp} {y : V} {u : Value} {Q : VK} {a dx : Addr} {fs : List (Str × V)}
    (I : Inv X pins σ H s) (ha : H a = some (.ins C dx fs)) (ry : RelV y u) (hy : (∃ i, y = .int i) ∨ ∃ b dy gs, y = .ref b ∧ H b = some (.ins C dy gs)) (q : sp [.ref a, y] H Q E) :
    wpAny (model X.prog X.w) X.A (richCompare op (.ref a) u) (EP X pins σ Q) X.xe s := by
  obtain ⟨mA, J, _⟩ := ins_get I.hok ha
  obtain ⟨od, J, _⟩ := J.look
  obtain ⟨m, hF⟩ := I.fr
  have fin : wpAny (model X.prog X.w) X.A (call (.ref f) [.ref a, u]) (PySem.W.CmpBack (EP X pins σ Q)) X.xe s :=
    wpAny_mono (run_fn (us := [.ref a, u]) (vs := [.ref a, y]) F hr hb .nil hx I (.cons rfl (.cons ry .nil)) q) (fun _ _ z => cmpBack_of z) fun _ _ z => z
  rcases hy with ⟨i, rfl⟩ | ⟨b, dy, gs, rfl, hb'⟩
  · obtain ⟨t, rfl⟩ := ry
    refine PySem.W.cmp_K (op := op) (tb := .type "int") hr.units0 hF I.ok.mod.kin J (PySem.W.Looks.of_pure rfl) ?_ O.at_ O.fn fin
    unfold PySem.W.notFirst
    rw [O.sub]
    simp
  · cases ry
    obtain ⟨mB, J', _⟩ := ins_get I.hok hb'
    obtain ⟨od', J', _⟩ := J'.look
    exact PySem.W.cmp_K (op := op) (tb := .ref C) hr.units0 hF I.ok.mod.kin J J'.type (by simp [PySem.W.notFirst]) O.at_ O.fn fin
def rOwnC (C : Addr) (sp : Sp) (E : XK) : R2 := fun x y H Q => ∃ a dx fs, x = .ref a ∧ H a = some (.ins C dx fs) ∧ ((∃ i, y = .int i) ∨ ∃ b dy gs, y = .ref b ∧ H b = some (.ins C dy gs)) ∧ sp [x, y] H Q E
theorem op_ownC (O : OwnC X.K C f op) (F : FnOk X.prog X.w X.K X.mg X.base CX k f fd ps sp) (hr : Room k X.A) (hb : Binds X.K fd ps []) (hx : Passes CX X E) (hc : ∀ v u, compareOp op v u = richCompare op v u := by intro _ _; rfl) : OpR X (compareOp op) (rOwnC C sp E) := by
  intro pins s σ H x y v u Q I rx ry h
  obtain ⟨a, dx, fs, rfl, ha, hy, q⟩ := h
  cases rx
  rw [hc]
  exact rich_own O F hr hb hx I ha ry hy q
/-- a call of a built-in class whose own method answers, two levels in -/
theorem run_in2 {pins : List (Addr × Obj)} {σ : St} {H : Hp} {s : Shared} {Q : VK} {a : Addr} (F : FnOk X.prog X.w X.K X.mg X.base CX k f fd ps sp) (hr : Room (k + 2) X.A) (hb : Binds X.K fd ps []) (hx : Passes CX X E) (I : Inv X pins σ H s) (q : sp [.ref a] H Q E) :
    wpAny (model X.prog X.w) X.A.in1.in1 (call (.ref f) [.ref a]) (EP X pins σ Q) X.xe s := by
  have hl := F.len _ _ _ _ q
  have r2 : Vals [V.ref a] [Value.ref a] := .cons rfl .nil
  refine wpAny_call (codeAny_mono (F.run X.A.in1.in1 X.stack s H ⟨[.ref a], []⟩ [.ref a] [.ref a] Q E hr.in1.in1 I.env0.in1.in1 (by
    have := hb s [.ref a] I.kIn (by simpa using hl)
    simpa using this) r2 q) fun r s' hq => ?_)
  cases r with
  | error e => exact hx pins σ H s e s' I hq
  | ok fl =>
    cases fl with
    | ret w => exact I.after hq
    | next => exact False.elim hq
    | brk => exact False.elim hq
    | cont => exact False.elim hq
/-- bool(x) -/
theorem call_boolOwn (hs : PySem.W.findIn X.K (.ref C) "__bool__" = some (some (.ref f))) (hf : PySem.W.isFn X.K (.ref f) = true) (F : FnOk X.prog X.w X.K X.mg X.base CX k f fd ps sp) (hr : Room (k + 2) X.A) (hb : Binds X.K fd ps []) (hx : Passes CX X E) :
    CallR X (.type "bool") (fun xs H Q => ∃ a dx fs, xs = [.ref a] ∧ H a = some (.ins C dx fs) ∧ sp [.ref a] H (fun v H' => ∃ b, v = .bl b ∧ Q (.bl b) H') E) := by
  intro pins s σ H xs us Q I r h
  obtain ⟨a, dx, fs, rfl, ha, q⟩ := h
  obtain ⟨u, rfl, ru⟩ := vals1 r
  cases ru
  obtain ⟨mA, J, _⟩ := ins_get I.hok ha
  obtain ⟨od, J, _⟩ := J.look
  obtain ⟨m, hF⟩ := I.fr
  refine PLow.bool_own hF I.ok.mod.kin J hs hf (wpAny_mono (run_in2 F hr hb hx I q) (fun u s' z => ?_) fun _ _ z => z)
  obtain ⟨v, H', I', rv, b, rfl, q'⟩ := z
  cases rv
  exact ⟨.bl b, H', I', rfl, q'⟩
/-- str(x) -/
theorem call_strOwn (hs : PySem.W.findIn X.K (.ref C) "__str__" = some (some (.ref f))) (hf : PySem.W.isFn X.K (.ref f) = true) (F : FnOk X.prog X.w X.K X.mg X.base CX k f fd ps sp) (hr : Room (k + 2) X.A) (hb : Binds X.K fd ps []) (hx : Passes CX X E) :
    CallR X (.type "str") (fun xs H Q => ∃ a dx fs, xs = [.ref a] ∧ H a = some (.ins C dx fs) ∧ sp [.ref a] H (fun v H' => ∃ b, v = .str b ∧ Q (.str b) H') E) := by
  intro pins s σ H xs us Q I r h
  obtain ⟨a, dx, fs, rfl, ha, q⟩ := h
  obtain ⟨u, rfl, ru⟩ := vals1 r
  cases ru
  obtain ⟨mA, J, _⟩ := ins_get I.hok ha
  obtain ⟨od, J, _⟩ := J.look
  have hu := hr.units
  refine PySem.W.kso_call (by show X.A.units + 1 + 1 < cLine; omega) I.kIn J hs hf (wpAny_mono (run_in2 F hr hb hx I q) (fun u s' z => ?_) fun _ _ z => z)
  obtain ⟨v, H', I', rv, b, rfl, q'⟩ := z
  obtain ⟨t, rfl⟩ := rv
  exact ⟨.str b, H', I', ⟨t, rfl⟩, q'⟩
end
end L2

set_option maxHeartbeats 2000000
/-! a written dict of ints -/
namespace L2
open PySem PySem.Spec PyProof.Rows
/-- the entries of {1: 1, 4: 2, 9: 3, 16: 4} -/
def esM (x1 x2 x3 x4 y1 y2 y3 y4 : Tok) : Array DictEntry := #[⟨1, .int 1 x1, .int 1 y1⟩, ⟨4, .int 4 x2, .int 2 y2⟩, ⟨9, .int 9 x3, .int 3 y3⟩, ⟨16, .int 16 x4, .int 4 y4⟩]
structure KMarks (K : PySem.W.Frag) (d : Addr) : Prop where
  at_ : ∃ x1 x2 x3 x4 y1 y2 y3 y4 n, K.lookup d = some ⟨.type "dict", none, .dict (esM x1 x2 x3 x4 y1 y2 y3 y4) n, #[]⟩
  low : (d == sysModules) = false
/-- 1, 4, 9, 16 by their roots -/
inductive Root : Int → Int → Prop where
  | r1 : Root 1 1
  | r2 : Root 4 2
  | r3 : Root 9 3
  | r4 : Root 16 4
theorem root_find {k v : Int} (r : Root k v) (x1 x2 x3 x4 y1 y2 y3 y4 : Tok) : ∃ t, findBy Value.isInt (esM x1 x2 x3 x4 y1 y2 y3 y4) k = some (.int v t) := by
  cases r
  · exact ⟨y1, rfl⟩
  · exact ⟨y2, rfl⟩
  · exact ⟨y3, rfl⟩
  · exact ⟨y4, rfl⟩
section
variable {X : Cx} {d : Addr}
theorem KMarks.map (D : KMarks X.K d) {pins : List (Addr × Obj)} {σ : St} {H : Hp} {s : Shared} (I : Inv X pins σ H s) : ∃ x1 x2 x3 x4 y1 y2 y3 y4, s.heap.MapOf (PySem.intKind X.prog X.w) d (fun k => findBy Value.isInt (esM x1 x2 x3 x4 y1 y2 y3 y4) k) := by
  obtain ⟨x1, x2, x3, x4, y1, y2, y3, y4, n, e⟩ := D.at_
  refine ⟨x1, x2, x3, x4, y1, y2, y3, y4, _, _, n, I.kIn _ _ e, ⟨rfl, rfl, rfl⟩, rfl, ?_, fun _ => rfl⟩
  intro en hen
  have hm : en ∈ (esM x1 x2 x3 x4 y1 y2 y3 y4).toList := Array.mem_toList_iff.mpr hen
  rcases List.mem_cons.mp hm with rfl | hm
  · exact ⟨1, by simp [PySem.intKind, Value.isInt], (by show (1 : Int) = hashInt 1; decide +kernel)⟩
  rcases List.mem_cons.mp hm with rfl | hm
  · exact ⟨4, by simp [PySem.intKind, Value.isInt], (by show (4 : Int) = hashInt 4; decide +kernel)⟩
  rcases List.mem_cons.mp hm with rfl | hm
  · exact ⟨9, by simp [PySem.intKind, Value.isInt], (by show (9 : Int) = hashInt 9; decide +kernel)⟩
  rcases List.mem_cons.mp hm with rfl | hm
  · exact ⟨16, by simp [PySem.intKind, Value.isInt], (by show (16 : Int) = hashInt 16; decide +kernel)⟩
  cases hm
theorem op_notIn_km (D : KMarks X.K d) : OpR X (compareOp .NotIn) (fun x y H Q => ∃ k v, x = .int k ∧ y = .ref d ∧ Root k v ∧ Q (.bl false) H) := by
  intro pins s σ H x y v u Q I rx ry h
  obtain ⟨k, r, rfl, rfl, hr, q⟩ := h
  obtain ⟨t, rfl⟩ := rx
  cases ry
  obtain ⟨x1, x2, x3, x4, y1, y2, y3, y4, hm⟩ := D.map I
  obtain ⟨tk, ef⟩ := root_find hr x1 x2 x3 x4 y1 y2 y3 y4
  refine wpAny_notIn_of (k := k) (by simp [PySem.intKind, Value.isInt]) D.low hm ?_
  rw [ef]
  exact ⟨.bl false, H, I.tok _, rfl, q⟩
theorem ix_km (D : KMarks X.K d) : IxR X (fun x y H Q => ∃ k v, x = .ref d ∧ y = .int k ∧ Root k v ∧ Q (.int v) H) := by
  intro value slice pins s σ H x y v u Q I rx ry h hs
  obtain ⟨k, r, rfl, rfl, hr, q⟩ := h
  obtain rfl : v = Value.ref d := rx
  obtain ⟨t, rfl⟩ := ry
  obtain ⟨x1, x2, x3, x4, y1, y2, y3, y4, hm⟩ := D.map I
  obtain ⟨tk, ef⟩ := root_find hr x1 x2 x3 x4 y1 y2 y3 y4
  exact tail_any hm.typeIs slot_dict_getitem.lookup (wpAny_getItem_of (k := k) (by simp [PySem.intKind, Value.isInt]) hm ef ⟨.int r, H, I.tok _, ⟨tk, rfl⟩, q⟩) hs
end
/-! len(x) by the own method -/
section
variable {X : Cx} {CX : CXT} {k : Nat} {C f : Addr} {fd : FuncData} {ps : List Str} {sp : Sp} {E : XK}
theorem call_lenOwn (hs : PySem.W.findIn X.K (.ref C) "__len__" = some (some (.ref f))) (hf : PySem.W.isFn X.K (.ref f) = true) (F : FnOk X.prog X.w X.K X.mg X.base CX k f fd ps sp) (hr : Room (k + 1) X.A) (hb : Binds X.K fd ps []) (hx : Passes CX X E) :
    CallR X (.builtin "len") (fun xs H Q => ∃ a dx fs, xs = [.ref a] ∧ H a = some (.ins C dx fs) ∧ sp [.ref a] H (fun v H' => ∃ n : Nat, v = .int n ∧ n ≤ 1000 ∧ Q (.int n) H') E) := by
  intro pins s σ H xs us Q I r h
  obtain ⟨a, dx, fs, rfl, ha, q⟩ := h
  obtain ⟨u, rfl, ru⟩ := vals1 r
  cases ru
  obtain ⟨mA, J, _⟩ := ins_get I.hok ha
  obtain ⟨od, J, _⟩ := J.look
  obtain ⟨m, hF⟩ := I.fr
  refine PySem.W.len_K hF I.ok.mod.kin J hs hf ?_
  have hl := F.len _ _ _ _ q
  have r2 : Vals [V.ref a] [Value.ref a] := .cons rfl .nil
  refine wpAny_call (codeAny_mono (F.run X.A.in1 X.stack s H ⟨[.ref a], []⟩ [.ref a] [.ref a] _ E hr.in1 I.env0.in1 (by
    have := hb s [.ref a] I.kIn (by simpa using hl)
    simpa using this) r2 q) fun r s' hq => ?_)
  cases r with
  | error e => exact hx pins σ H s e s' I hq
  | ok fl =>
    cases fl with
    | ret w =>
      obtain ⟨v, H', I', rv, n, rfl, hn, q'⟩ := I.after hq
      obtain ⟨t, rfl⟩ := rv
      exact ⟨⟨by omega, by omega⟩, .int n, H', I'.tok _, ⟨_, rfl⟩, q'⟩
    | next => exact False.elim hq
    | brk => exact False.elim hq
    | cont => exact False.elim hq
end
end L2

set_option maxHeartbeats 4000000
namespace PA
open PySem L2 RZ
open C8 (pss_cut tCut)
def top (i : Nat) : Stmt := PySem.Challenge.pw_pairahead_k17_whole_lists_of_any_length.main.body.getD i (.Pass ⟨0, 0, 0, 0⟩)
abbrev sIsInt : Stmt := top 29
abbrev sBelow : Stmt := top 30
abbrev sInit : Stmt := inClass (top 39) 0
abbrev sStep : Stmt := inClass (top 39) 2
abbrev sLen : Stmt := inClass (top 39) 4
abbrev sCheck : Stmt := top 41
abbrev sIsRow : Stmt := top 42
/-! ### data -/
abbrev Rw := Int × Bool × Int × Bool
def rv (r : Rw) : List V := [.int r.1, .bl r.2.1, .int r.2.2.1, .bl r.2.2.2]
def RwOk (n : Nat) (r : Rw) : Prop := (0 ≤ r.1 ∧ r.1 < n) ∧ 0 ≤ r.2.2.1 ∧ r.2.2.1 < n
/-- what stands at each place of a list of references -/
def Each (H : Hp) (P : Hp → Addr → Rw → Prop) (xs : List V) (rows : List Rw) : Prop := xs.length = rows.length ∧ ∀ (i : Nat) (x : V) (r : Rw), xs[i]? = some x → rows[i]? = some r → ∃ c, x = .ref c ∧ P H c r
def isT (H : Hp) (c : Addr) (r : Rw) : Prop := H c = some (.tup (rv r))
def isLT (H : Hp) (c : Addr) (r : Rw) : Prop := H c = some (.tup (rv r)) ∨ H c = some (.lst (rv r))
theorem Each.imp {H H' : Hp} {P P' : Hp → Addr → Rw → Prop} {xs : List V} {rows : List Rw} (e : Each H P xs rows) (f : ∀ c r, P H c r → P' H' c r) : Each H' P' xs rows := ⟨e.1, fun i x r h1 h2 => let ⟨c, hx, q⟩ := e.2 i x r h1 h2; ⟨c, hx, f c r q⟩⟩
theorem Each.sameT {H H' : Hp} {xs : List V} {rows : List Rw} (e : Each H isT xs rows) (s : Same H H') : Each H' isT xs rows := e.imp fun c r q => s _ _ q
theorem Each.sameLT {H H' : Hp} {xs : List V} {rows : List Rw} (e : Each H isLT xs rows) (s : Same H H') : Each H' isLT xs rows := e.imp fun c r q => q.elim (fun q => .inl (s _ _ q)) fun q => .inr (s _ _ q)
theorem Each.nil {H : Hp} {P : Hp → Addr → Rw → Prop} : Each H P [] [] := ⟨rfl, fun i x r h _ => by simp at h⟩
theorem Each.push {H : Hp} {P : Hp → Addr → Rw → Prop} {xs : List V} {rows : List Rw} {c : Addr} {r : Rw} (e : Each H P xs rows) (q : P H c r) : Each H P (xs ++ [.ref c]) (rows ++ [r]) := by
  refine ⟨by rw [List.length_append, List.length_append, e.1]; rfl, fun i x r' h1 h2 => ?_⟩
  rcases Nat.lt_or_ge i xs.length with hi | hi
  · rw [List.getElem?_append_left hi] at h1
    rw [List.getElem?_append_left (by rw [← e.1]; exact hi)] at h2
    exact e.2 i x r' h1 h2
  · rw [List.getElem?_append_right hi] at h1
    rw [List.getElem?_append_right (by rw [← e.1]; exact hi), ← e.1] at h2
    cases hk : i - xs.length with
    | zero =>
      rw [hk] at h1 h2
      have h1' : V.ref c = x := by simpa using h1
      have h2' : r = r' := by simpa using h2
      exact ⟨c, h1'.symm, h2' ▸ q⟩
    | succ k =>
      rw [hk] at h1
      simp at h1
/-- a list is changed: tuples stay -/
theorem isT.lst {H : Hp} {c D : Addr} {r : Rw} {xs ys : List V} (q : isT H c r) (hD : H D = some (.lst xs)) : isT (upd H D (.lst ys)) c r := by
  unfold isT
  rw [upd_ne (ne_of (H := H) q hD (by intro z; cases z))]
  exact q
theorem take_succ' {α : Type} {l : List α} {i : Nat} {x : α} (h : l[i]? = some x) : l.take (i + 1) = l.take i ++ [x] := by
  rw [List.take_add_one, h]
  rfl
def rf (R S : Addr) (k : Int) : List (Str × V) := putF "marks" (.int k) (putF "starts" (.ref S) (putF "rows" (.ref R) []))
theorem rs_ : ¬ (("rows" : Str) = "starts") := by decide +kernel
theorem rm_ : ¬ (("rows" : Str) = "marks") := by decide +kernel
theorem sm_ : ¬ (("starts" : Str) = "marks") := by decide +kernel
theorem rf_rows (R S : Addr) (k : Int) : (rf R S k).lookup ("rows" : Str) = some (.ref R) := by
  unfold rf
  rw [lookup_putF, if_neg rm_, lookup_putF, if_neg rs_, lookup_putF, if_pos rfl]
theorem rf_starts (R S : Addr) (k : Int) : (rf R S k).lookup ("starts" : Str) = some (.ref S) := by
  unfold rf
  rw [lookup_putF, if_neg sm_, lookup_putF, if_pos rfl]
theorem rf_marks (R S : Addr) (k : Int) : (rf R S k).lookup ("marks" : Str) = some (.int k) := by
  unfold rf
  rw [lookup_putF, if_pos rfl]
theorem rf_no (R S : Addr) (k : Int) {m : Str} (h1 : ¬ m = "marks") (h2 : ¬ m = "starts") (h3 : ¬ m = "rows") : (rf R S k).lookup m = none := by
  unfold rf
  rw [lookup_putF, if_neg h1, lookup_putF, if_neg h2, lookup_putF, if_neg h3]
  all_goals rfl
/-- a Rule stands at p -/
def RuleAt (K : PySem.W.Frag) (C : Addr) (H : Hp) (p : Addr) (rows : List Rw) (starts : List Int) (k : Int) : Prop := ∃ dx R S refs, H p = some (.ins C dx (rf R S k)) ∧ H R = some (.tup refs) ∧ Each H isT refs rows ∧ SqT K H S (starts.map V.int)
theorem SqT.up {K : PySem.W.Frag} {H H' : Hp} {a : Addr} {xs : List V} (h : SqT K H a xs) (e : Same H H') : SqT K H' a xs :=
  h.elim (fun h => .inl (h.elim (fun h => .inl (e _ _ h)) fun ⟨o, h⟩ => .inr ⟨o, e _ _ h⟩)) fun h => .inr h
theorem RuleAt.same {K : PySem.W.Frag} {C : Addr} {H H' : Hp} {p : Addr} {rows : List Rw} {starts : List Int} {k : Int} (r : RuleAt K C H p rows starts k) (s : Same H H') : RuleAt K C H' p rows starts k := by
  obtain ⟨dx, R, S, refs, h1, h2, h3, h4⟩ := r
  exact ⟨dx, R, S, refs, s _ _ h1, s _ _ h2, h3.sameT s, SqT.up h4 s⟩
structure Txt (K : PySem.W.Frag) (mg : Str → Option Value) (C : Addr) : Prop where
  cl : Cls K C
  nR : NoAttr K C "rows"
  nS : NoAttr K C "starts"
  nM : NoAttr K C "marks"
  mgC : mg "Rule" = some (.ref C)
  isi : mg "isinstance" = none
  int_ : mg "int" = none
  bool_ : mg "bool" = none
  list_ : mg "list" = none
  tup_ : mg "tuple" = none
  len_ : mg "len" = none
  all_ : mg "all" = none
  zip_ : mg "zip" = none
  range_ : mg "range" = none
  most : ∃ t, mg "MOST_ROWS" = some (.int 48 t)
  marks : ∃ d, mg "MARKS_OF_STARTS" = some (.ref d) ∧ KMarks K d
theorem boot_isi : bootBuiltins "isinstance" = some (.builtin "isinstance") := by decide +kernel
theorem boot_int' : bootBuiltins "int" = some (.type "int") := by decide +kernel
theorem boot_bool' : bootBuiltins "bool" = some (.type "bool") := by decide +kernel
theorem boot_tuple' : bootBuiltins "tuple" = some (.type "tuple") := by decide +kernel
theorem boot_list' : bootBuiltins "list" = some (.type "list") := by decide +kernel
theorem boot_all' : bootBuiltins "all" = some (.builtin "all") := by decide +kernel
structure Df (K : PySem.W.Frag) (mg : Str → Option Value) (x : Str) (st : Stmt) (f : Addr) (fd : FuncData) (ps : List Str) : Prop where
  F : Fun K x x st f fd
  B : Binds K fd ps []
  M : mg x = some (.ref f)
/-! ### promises -/
def spIsInt : Sp := fun vs H Q _ => ∃ i, vs = [.int i] ∧ Q (.bl true) H
def spBelow : Sp := fun vs H Q _ => ∃ v c : Int, vs = [.int v, .int c] ∧ 0 ≤ v ∧ v < c ∧ Q (.bl true) H
def spIsRow : Sp := fun vs H Q _ => ∃ (p : Addr) (r : Rw) (n : Nat), vs = [.ref p, .int (n : Int)] ∧ isT H p r ∧ RwOk n r ∧ Q (.bl true) H
def spCheck (K : PySem.W.Frag) : Sp := fun vs H Q _ => ∃ (R S : Addr) (refs : List V) (rows : List Rw) (starts : List Int) (k : Int), vs = [.ref R, .ref S] ∧ H R = some (.tup refs) ∧ Each H isT refs rows ∧ SqT K H S (starts.map V.int) ∧
  1 ≤ rows.length ∧ rows.length ≤ 48 ∧ (∀ r ∈ rows, RwOk rows.length r) ∧ Root (starts.length : Int) k ∧ (∀ s ∈ starts, 0 ≤ s ∧ s < (rows.length : Int)) ∧ ∀ H', Same H H' → Q .non H'
section
variable {P : Program} {w : World} {K : PySem.W.Frag} {mg : Str → Option Value} {base : Heap} {C : Addr}
theorem ifD_no {p A B : Prop} [Decidable p] (h : ¬ p) (q : B) : if decide p = true then A else B := by
  rw [decide_eq_false h]
  exact iteF q
theorem ifD_yes {p A B : Prop} [Decidable p] (h : p) (q : A) : if decide p = true then A else B := by
  rw [decide_eq_true h]
  exact iteT q
theorem ifD_2 {p A B : Prop} [Decidable p] (h1 : p → A) (h2 : ¬ p → B) : if decide p = true then A else B := by
  by_cases h : p
  · exact ifD_yes h (h1 h)
  · exact ifD_no h (h2 h)
theorem Same.new {H : Hp} {p : Addr} {o : HO} (hp : H p = none) : Same H (upd H p o) := fun b u e => by
  rw [upd_ne (ne_of_none e hp)]
  exact e
theorem scIsInt : FnScope ["value"] ["value"] (defScope sIsInt) := ⟨rfl, rfl, rfl, by decide +kernel, rfl, by decide +kernel, by decide +kernel⟩
theorem ok_isInt {f : Addr} {fd : FuncData} (F : Fun K "is_integer" "is_integer" sIsInt f fd) (T : Txt K mg C) : FnOk P w K mg base CX0 1 f fd ["value"] spIsInt := by
  refine F.ok scIsInt (fun vs H Q E h => ?_) (fun cdv A outer s H vs Q E hr h => ?_)
  · obtain ⟨i, rfl, _⟩ := h
    rfl
  · obtain ⟨i, rfl, k⟩ := h
    refine ⟨_, pss_one (ps_ret (pe_and (pe_callB call_isi (by rfl) T.isi boot_isi (pa_cons (pv 0) (pa_cons (pe_bltn (v := .ty "int") (by rfl) T.int_ boot_int' rfl) pa_nil)))
      (pe_one (pe_not (pe_callB call_isi (by rfl) T.isi boot_isi (pa_cons (pv 0) (pa_cons (pe_bltn (v := .ty "bool") (by rfl) T.bool_ boot_bool' rfl) pa_nil))))))), ?_⟩
    refine ⟨_, rfl, _, _, _, _, _, rfl, .ty _, .base (.int i), kit_ty (b := "int") (r := true) (by decide +kernel), _, rfl, iteT ?_⟩
    exact ⟨_, rfl, _, _, _, _, _, rfl, .ty _, .base (.int i), kit_ty (b := "bool") (r := false) (by decide +kernel), _, rfl, k⟩
theorem scBelow : FnScope ["value", "count"] ["value", "count"] (defScope sBelow) := ⟨rfl, rfl, rfl, by decide +kernel, rfl, by decide +kernel, by decide +kernel⟩
theorem ok_below {f g : Addr} {fd gd : FuncData} (F : Fun K "is_below" "is_below" sBelow f fd) (T : Txt K mg C) (D : Df K mg "is_integer" sIsInt g gd ["value"]) : FnOk P w K mg base CX0 2 f fd ["value", "count"] spBelow := by
  have G : FnOk P w K mg base CX0 1 g gd ["value"] spIsInt := ok_isInt D.F T
  refine F.ok scBelow (fun vs H Q E h => ?_) (fun cdv A outer s H vs Q E hr h => ?_)
  · obtain ⟨v, c, rfl, _⟩ := h
    rfl
  · obtain ⟨v, c, rfl, h0, h1, k⟩ := h
    refine ⟨_, pss_one (ps_ret (pe_and (pe_call G hr rfl D.M D.F.kp D.B .nil pass0 (pa_cons (pv 0) pa_nil)) (pe_one (pe_chain op_le op_lt pe_int (pv 0) (pv 1))))), ?_⟩
    refine ⟨_, rfl, v, rfl, _, rfl, iteT ?_⟩
    refine ⟨_, rfl, _, _, rfl, rfl, _, rfl, ifD_yes h0 ⟨_, rfl, _, _, rfl, rfl, ?_⟩⟩
    show Q (V.bl (decide (v < c))) H
    rw [decide_eq_true h1]
    exact k
theorem scIsRow : FnScope ["row", "count", "next_ahead", "falls", "next_behind", "goes"] ["row", "count"] (defScope sIsRow) := ⟨rfl, rfl, rfl, by decide +kernel, rfl, by decide +kernel, by decide +kernel⟩
theorem ok_isRow {f g1 g2 : Addr} {fd gd1 gd2 : FuncData} (F : Fun K "_is_row" "_is_row" sIsRow f fd) (T : Txt K mg C) (D1 : Df K mg "is_integer" sIsInt g1 gd1 ["value"]) (D2 : Df K mg "is_below" sBelow g2 gd2 ["value", "count"]) : FnOk P w K mg base CX0 3 f fd ["row", "count"] spIsRow := by
  have G : FnOk P w K mg base CX0 2 g2 gd2 ["value", "count"] spBelow := ok_below D2.F T D1
  refine F.ok scIsRow (fun vs H Q E h => ?_) (fun cdv A outer s H vs Q E hr h => ?_)
  · obtain ⟨p, r, n, rfl, _⟩ := h
    rfl
  · obtain ⟨p, ⟨a, fl, b, go⟩, n, rfl, hp, ⟨⟨a0, a1⟩, b0, b1⟩, k⟩ := h
    refine ⟨_, pss_cons (ps_if (pt_cmpR op_ne (pe_callB call_len_seq (by rfl) T.len_ PySem.boot_len (pa_cons (pv 0) pa_nil)) pe_int (nomark _)) pss_never pss_nil)
      (pss_cons (ps_asg (pv 0) (pg_tup rfl (pgs_cons (pg_name (i := 2) scIsRow.nd rfl (Or.inl rfl)) (pgs_cons (pg_name (i := 3) scIsRow.nd rfl (Or.inl rfl)) (pgs_cons (pg_name (i := 4) scIsRow.nd rfl (Or.inl rfl)) (pgs_cons (pg_name (i := 5) scIsRow.nd rfl (Or.inl rfl)) pgs_nil))))))
      (pss_cons (ps_if (PW.pt (pw_or (pt_not (pt_val (pe_call G hr rfl D2.M D2.F.kp D2.B .nil pass0 (pa_cons (pv 2) (pa_cons (pv 1) pa_nil))))) (pw_or1 (pt_not (pt_val (pe_call G hr rfl D2.M D2.F.kp D2.B .nil pass0 (pa_cons (pv 4) (pa_cons (pv 1) pa_nil)))))))) pss_never pss_nil)
      (pss_one (ps_ret (pe_and (pe_callB call_isi (by rfl) T.isi boot_isi (pa_cons (pv 3) (pa_cons (pe_bltn (v := .ty "bool") (by rfl) T.bool_ boot_bool' rfl) pa_nil))) (pe_one (pe_callB call_isi (by rfl) T.isi boot_isi (pa_cons (pv 5) (pa_cons (pe_bltn (v := .ty "bool") (by rfl) T.bool_ boot_bool' rfl) pa_nil))))))))), ?_⟩
    refine ⟨_, rfl, p, _, rfl, .inr (SqT.of hp), rfl, _, rfl, iteNS rfl ?_⟩
    refine ⟨_, rfl, p, _, rfl, SqT.of hp, rfl, _, _, rfl, _, _, rfl, _, _, rfl, _, _, rfl, rfl, ?_⟩
    refine ⟨_, rfl, _, rfl, a, _, rfl, a0, a1, _, rfl, iteF ?_⟩
    refine ⟨_, rfl, _, rfl, b, _, rfl, b0, b1, _, rfl, iteF ?_⟩
    refine ⟨_, rfl, _, _, _, _, _, rfl, .ty _, .base (.bl fl), kit_ty (b := "bool") (r := true) (by decide +kernel), _, rfl, iteT ?_⟩
    exact ⟨_, rfl, _, _, _, _, _, rfl, .ty _, .base (.bl go), kit_ty (b := "bool") (r := true) (by decide +kernel), k⟩
end
end PA

set_option maxHeartbeats 4000000
namespace PA
open PySem L2 RZ
open C8 (pss_cut tCut)
/-- the list of what was made so far: all true -/
theorem all_true (n : Nat) : (List.replicate n true).all id = true := by
  rw [List.all_eq_true]
  intro x hx
  rw [(List.mem_replicate.mp hx).2]
  rfl
def rLenK (K : PySem.W.Frag) : List V → Hp → (V → Hp → Prop) → Prop := fun xs H Q => ∃ p ys, xs = [.ref p] ∧ (SqL K H p ys ∨ SqT K H p ys) ∧ Q (.int ys.length) H
theorem call_lenK {X : Cx} {K : PySem.W.Frag} (h : X.K = K) : CallR X (.builtin "len") (rLenK K) := h ▸ call_len_seq
theorem root_le {n k : Int} (r : Root n k) : n ≤ 16 := by
  cases r <;> decide
section
variable {P : Program} {w : World} {K : PySem.W.Frag} {mg : Str → Option Value} {base : Heap} {C : Addr}
theorem scCheck : FnScope ["rows", "starts", "row", "state"] ["rows", "starts"] (defScope sCheck) := ⟨rfl, rfl, rfl, by decide +kernel, rfl, by decide +kernel, by decide +kernel⟩
theorem ok_check {f g1 g2 g3 : Addr} {fd gd1 gd2 gd3 : FuncData} (F : Fun K "_check_table" "_check_table" sCheck f fd) (T : Txt K mg C) (D1 : Df K mg "is_integer" sIsInt g1 gd1 ["value"]) (D2 : Df K mg "is_below" sBelow g2 gd2 ["value", "count"]) (D3 : Df K mg "_is_row" sIsRow g3 gd3 ["row", "count"]) : FnOk P w K mg base CX0 4 f fd ["rows", "starts"] (spCheck K) := by
  have G2 : FnOk P w K mg base CX0 3 g2 gd2 ["value", "count"] spBelow := (ok_below D2.F T D1).mono (by decide)
  have G3 : FnOk P w K mg base CX0 3 g3 gd3 ["row", "count"] spIsRow := ok_isRow D3.F T D1 D2
  obtain ⟨tm, hmost⟩ := T.most
  obtain ⟨dm, hdm, km⟩ := T.marks
  refine F.ok scCheck (fun vs H Q E h => ?_) (fun cdv A outer s H vs Q E hr h => ?_)
  · obtain ⟨R, S, _, _, _, _, rfl, _⟩ := h
    rfl
  · obtain ⟨R, S, refs, rows, starts, k, rfl, hR, hE, hS, h1, h48, hok, hroot, hst, kk⟩ := h
    refine ⟨_, pss_cons (ps_if (pt_not (pt_chain op_le op_le pe_int (pe_callB call_len_seq (by rfl) T.len_ PySem.boot_len (pa_cons (pv 0) pa_nil)) (pe_glob (v := .int 48) rfl hmost ⟨_, rfl⟩))) pss_never pss_nil)
      (pss_cons (ps_if (pt_not (pt_val (pe_callB (cr_all rfl) (by rfl) T.all_ boot_all' (pa_cons (pe_lc (own := [("row", 2)]) (g := gName 2) (tt := tYes) (by rfl) scCheck.nd (pi_tup (pv 0)) (blkOk_by (N := ["rows", "starts", "row", "state"]) (sc := defScope sCheck) (by decide +kernel))
          (fun _ _ _ _ _ => pg_name (i := 2) scCheck.nd rfl (Or.inl rfl)) (fun _ _ _ _ _ => pts_nil)
          (fun _ _ _ _ _ => pe_call G3 hr rfl D3.M D3.F.kp D3.B .nil pass0 (pa_cons (pv 2) (pa_cons (pe_callB (call_lenK (K := K) rfl) (by rfl) T.len_ PySem.boot_len (pa_cons (pv 0) pa_nil)) pa_nil)))) pa_nil)))) pss_never pss_nil)
      (pss_cons (ps_if (pt_cmpR (op_notIn_km km) (pe_callB call_len_seq (by rfl) T.len_ PySem.boot_len (pa_cons (pv 1) pa_nil)) (pe_glob (v := .ref dm) rfl hdm rfl) rfl) pss_never pss_nil)
      (pss_one (ps_if (pt_not (pt_val (pe_callB (cr_all rfl) (by rfl) T.all_ boot_all' (pa_cons (pe_lc (own := [("state", 3)]) (g := gName 3) (tt := tYes) (by rfl) scCheck.nd (pi_tup (pv 1)) (blkOk_by (N := ["rows", "starts", "row", "state"]) (sc := defScope sCheck) (by decide +kernel))
          (fun _ _ _ _ _ => pg_name (i := 3) scCheck.nd rfl (Or.inl rfl)) (fun _ _ _ _ _ => pts_nil)
          (fun _ _ _ _ _ => pe_call G2 hr rfl D2.M D2.F.kp D2.B .nil pass0 (pa_cons (pv 3) (pa_cons (pe_callB (call_lenK (K := K) rfl) (by rfl) T.len_ PySem.boot_len (pa_cons (pv 0) pa_nil)) pa_nil)))) pa_nil)))) pss_never pss_nil)))), ?_⟩
    have hlr : refs.length = rows.length := hE.1
    refine ⟨_, rfl, ?_⟩
    refine ⟨R, _, rfl, .inr (SqT.of hR), _, _, rfl, rfl, _, rfl, ifD_yes (by rw [hlr]; omega) ?_⟩
    refine ⟨_, _, rfl, rfl, _, rfl, ?_⟩
    rw [hlr]
    have h48' : ((rows.length : Int) ≤ 48) := by omega
    rw [decide_eq_true h48']
    refine iteF ?_
    refine ⟨_, rfl, R, rfl, ⟨_, SqT.of hR⟩, fun Dd hD => ?_⟩
    refine lc_tup (K := K) (a := R) (xs := refs) (fun i H' => Same H H' ∧ H' Dd = some (.lst ((List.replicate i true).map V.bl))) ⟨Same.new hD, upd_same⟩ (fun i H' _ q => SqT.of (q.1 _ _ hR)) ?_ ?_
    · rintro i x H' hx ⟨sm, hd⟩
      have hi : i < rows.length := by rw [← hlr]; exact (List.getElem?_eq_some_iff.mp hx).1
      have hr' : rows[i]? = some rows[i] := List.getElem?_eq_getElem hi
      obtain ⟨c, rfl, hc⟩ := hE.2 i x _ hx hr'
      refine ⟨rfl, ?_⟩
      dsimp only [tYes]
      rw [if_pos rfl]
      refine ⟨_, rfl, _, rfl, R, _, rfl, .inr (SqT.of (sm _ _ hR)), c, rows[i], rows.length, congrArg (fun z : Nat => [V.ref c, V.int (z : Int)]) hlr, sm _ _ hc, hok _ (List.getElem_mem hi), ?_⟩
      refine ⟨_, hd, ?_, ?_, ?_⟩
      · rw [List.length_map, List.length_replicate]
        exact Nat.lt_of_lt_of_le hi (Nat.le_trans h48 (by decide))
      · intro c o e
        rw [upd_ne (ne_of_none e hD)]
        exact sm _ _ e
      · rw [upd_same, List.replicate_succ', List.map_append]
        rfl
    rintro H1 ⟨s1, hd1⟩
    refine ⟨Dd, _, rfl, SqL.of hd1, ?_⟩
    rw [all_true]
    refine ⟨true, rfl, iteF ?_⟩
    have hS1 := SqT.up hS s1
    refine ⟨_, rfl, S, _, rfl, .inr hS1, (starts.length : Int), k, ?_, rfl, hroot, _, rfl, iteF ?_⟩
    · show V.int (((starts.map V.int).length : Nat) : Int) = _
      rw [List.length_map]
    refine ⟨_, rfl, S, rfl, ⟨_, hS1⟩, fun De hE' => ?_⟩
    refine lc_tup (K := K) (a := S) (xs := starts.map V.int) (fun i H' => Same H1 H' ∧ H' De = some (.lst ((List.replicate i true).map V.bl))) ⟨Same.new hE', upd_same⟩ (fun i H' _ q => SqT.up hS1 q.1) ?_ ?_
    · rintro i x H' hx ⟨sm, hd⟩
      rw [List.getElem?_map, Option.map_eq_some_iff] at hx
      obtain ⟨z, hz, rfl⟩ := hx
      have hz' := hst z (List.mem_of_getElem? hz)
      refine ⟨rfl, ?_⟩
      dsimp only [tYes]
      rw [if_pos rfl]
      refine ⟨_, rfl, _, rfl, R, _, rfl, .inr (SqT.of (sm _ _ (s1 _ _ hR))), z, (rows.length : Int), congrArg (fun y : Nat => [V.int z, V.int (y : Int)]) hlr, hz'.1, hz'.2, ?_⟩
      refine ⟨_, hd, ?_, ?_, ?_⟩
      · rw [List.length_map, List.length_replicate]
        have : starts.length ≤ 16 := by
          have := root_le hroot
          omega
        have hi := (List.getElem?_eq_some_iff.mp hz).1
        exact Nat.lt_of_lt_of_le (Nat.lt_of_lt_of_le hi this) (by decide)
      · intro c o e
        rw [upd_ne (ne_of_none e hE')]
        exact sm _ _ e
      · rw [upd_same, List.replicate_succ', List.map_append]
        rfl
    rintro H2 ⟨s2, hd2⟩
    refine ⟨De, _, rfl, SqL.of hd2, ?_⟩
    rw [all_true]
    refine ⟨true, rfl, iteF ?_⟩
    exact kk _ (s1.trans s2)
end
end PA

set_option maxHeartbeats 4000000

namespace PA
open PySem L2 RZ
open C8 (pss_cut tCut)
/-- a list or a tuple -/
def Sq (K : PySem.W.Frag) (H : Hp) (a : Addr) (xs : List V) : Prop := SqL K H a xs ∨ SqT K H a xs
theorem SqL.up {K : PySem.W.Frag} {H H' : Hp} {a : Addr} {xs : List V} (h : SqL K H a xs) (e : Same H H') : SqL K H' a xs :=
  h.elim (fun h => .inl (h.elim (fun h => .inl (e _ _ h)) fun ⟨o, h⟩ => .inr ⟨o, e _ _ h⟩)) fun h => .inr h
theorem Sq.up {K : PySem.W.Frag} {H H' : Hp} {a : Addr} {xs : List V} (h : Sq K H a xs) (e : Same H H') : Sq K H' a xs := h.imp (fun h => SqL.up h e) fun h => SqT.up h e
theorem isLT.sq {K : PySem.W.Frag} {H : Hp} {c : Addr} {r : Rw} (h : isLT H c r) : Sq K H c (rv r) := h.elim (fun h => .inr (SqT.of h)) fun h => .inl (SqL.of h)
theorem isT.ins {H : Hp} {c p C dx : Addr} {fs : List (Str × V)} {o : HO} {r : Rw} (q : isT H c r) (hp : H p = some (.ins C dx fs)) : isT (upd H p o) c r := by
  unfold isT
  rw [upd_ne (ne_of (H := H) q hp (by intro z; cases z))]
  exact q
theorem SqT.keep {K : PySem.W.Frag} {H H' : Hp} {a p C dx : Addr} {fs : List (Str × V)} {xs : List V} (h : SqT K H a xs) (hp : H p = some (.ins C dx fs)) (kp : ∀ c o, H c = some o → c ≠ p → H' c = some o) : SqT K H' a xs := by
  rcases h with (h | ⟨ob, h⟩) | h
  · exact .inl (.inl (kp _ _ h (ne_of h hp (by intro z; cases z))))
  · exact .inl (.inr ⟨ob, kp _ _ h (ne_of h hp (by intro z; cases z))⟩)
  · exact .inr h
theorem SqL.keep {K : PySem.W.Frag} {H H' : Hp} {a p C dx : Addr} {fs : List (Str × V)} {xs : List V} (h : SqL K H a xs) (hp : H p = some (.ins C dx fs)) (kp : ∀ c o, H c = some o → c ≠ p → H' c = some o) : SqL K H' a xs := by
  rcases h with (h | ⟨ob, h⟩) | h
  · exact .inl (.inl (kp _ _ h (ne_of h hp (by intro z; cases z))))
  · exact .inl (.inr ⟨ob, kp _ _ h (ne_of h hp (by intro z; cases z))⟩)
  · exact .inr h
theorem Sq.keep {K : PySem.W.Frag} {H H' : Hp} {a p C dx : Addr} {fs : List (Str × V)} {xs : List V} (h : Sq K H a xs) (hp : H p = some (.ins C dx fs)) (kp : ∀ c o, H c = some o → c ≠ p → H' c = some o) : Sq K H' a xs := h.imp (fun h => SqL.keep h hp kp) fun h => SqT.keep h hp kp
theorem SqT.ins {K : PySem.W.Frag} {H : Hp} {a p C dx : Addr} {fs : List (Str × V)} {xs : List V} {o : HO} (h : SqT K H a xs) (hp : H p = some (.ins C dx fs)) : SqT K (upd H p o) a xs := SqT.keep h hp fun c o e hc => by rw [upd_ne hc]; exact e
theorem rf2_rows (R S : Addr) : (putF "starts" (.ref S) (putF "rows" (.ref R) [])).lookup ("rows" : Str) = some (V.ref R) := by
  rw [lookup_putF, if_neg rs_, lookup_putF, if_pos rfl]
theorem rf2_starts (R S : Addr) : (putF "starts" (.ref S) (putF "rows" (.ref R) [])).lookup ("starts" : Str) = some (V.ref S) := by
  rw [lookup_putF, if_pos rfl]
/-- what is good for a Rule -/
structure Good (rows : List Rw) (starts : List Int) (k : Int) : Prop where
  one : 1 ≤ rows.length
  most : rows.length ≤ 48
  ok : ∀ r ∈ rows, RwOk rows.length r
  root : Root (starts.length : Int) k
  st : ∀ s ∈ starts, 0 ≤ s ∧ s < (rows.length : Int)
def spInit (K : PySem.W.Frag) (C : Addr) : Sp := fun vs H Q _ => ∃ (p dx G S : Addr) (refs : List V) (rows : List Rw) (starts : List Int) (k : Int), vs = [.ref p, .ref G, .ref S] ∧ H p = some (.ins C dx []) ∧
  Sq K H G refs ∧ Each H isLT refs rows ∧ Sq K H S (starts.map V.int) ∧ Good rows starts k ∧
  ∀ H', (∃ R S' refs', H' p = some (.ins C dx (rf R S' k)) ∧ H' R = some (.tup refs') ∧ Each H' isT refs' rows ∧ SqT K H' S' (starts.map V.int)) → (∀ c o, H c = some o → c ≠ p → H' c = some o) → Q .non H'
abbrev FunI (K : PySem.W.Frag) (f : Addr) (fd : FuncData) (dd : Addr) : Prop := FunD K "__init__" "Rule.__init__" (defArgs sInit) (defBody sInit) (defScope sInit) [V.ref dd] [] f fd
def rTupK (K : PySem.W.Frag) : List V → Hp → (V → Hp → Prop) → Prop := fun xs H Q => ∃ p ys, xs = [.ref p] ∧ ((SqL K H p ys ∧ ∀ l, H l = none → Q (.ref l) (upd H l (.tup ys))) ∨ (SqT K H p ys ∧ Q (.ref p) H))
theorem call_tupleK {X : Cx} {K : PySem.W.Frag} (h : X.K = K) : CallR X (.type "tuple") (rTupK K) := h ▸ call_tuple_of
section
variable {P : Program} {w : World} {K : PySem.W.Frag} {mg : Str → Option Value} {base : Heap} {C : Addr}
theorem scInit : FnScope ["self", "rows", "starts", "row"] ["self", "rows", "starts"] (defScope sInit) := ⟨rfl, rfl, rfl, by decide +kernel, rfl, by decide +kernel, by decide +kernel⟩
theorem ok_init {f g1 g2 g3 g4 dd : Addr} {fd gd1 gd2 gd3 gd4 : FuncData} (F : FunI K f fd dd) (T : Txt K mg C) (D1 : Df K mg "is_integer" sIsInt g1 gd1 ["value"]) (D2 : Df K mg "is_below" sBelow g2 gd2 ["value", "count"]) (D3 : Df K mg "_is_row" sIsRow g3 gd3 ["row", "count"]) (D4 : Df K mg "_check_table" sCheck g4 gd4 ["rows", "starts"]) : FnOk P w K mg base CX0 5 f fd ["self", "rows", "starts"] (spInit K C) := by
  have G4 : FnOk P w K mg base CX0 4 g4 gd4 ["rows", "starts"] (spCheck K) := ok_check D4.F T D1 D2 D3
  obtain ⟨dm, hdm, km⟩ := T.marks
  refine F.ok scInit (fun vs H Q E h => ?_) (fun cdv A outer s H vs Q E hr h => ?_)
  · obtain ⟨p, dx, G, S, _, _, _, _, rfl, _⟩ := h
    rfl
  · obtain ⟨p, dx, G, S, refs, rows, starts, k, rfl, hp, hG, hE, hS, gd, kk⟩ := h
    refine ⟨_, pss_cut (ps_fld (pv 0) (pe_callTy call_tuple_of (by rfl) T.tup_ boot_tuple' (pa_cons (pe_lc (own := [("row", 3)]) (g := gName 3) (tt := tYes) (by rfl) scInit.nd ((pi_list (pv 1)).or (pi_tup (pv 1))) (blkOk_by (N := ["self", "rows", "starts", "row"]) (sc := defScope sInit) (by decide +kernel))
          (fun _ _ _ _ _ => pg_name (i := 3) scInit.nd rfl (Or.inl rfl)) (fun _ _ _ _ _ => pts_nil)
          (fun _ _ _ _ _ => pe_callTy (call_tupleK (K := K) rfl) (by rfl) T.tup_ boot_tuple' (pa_cons (pv 3) pa_nil))) pa_nil)) rfl)
      (pss_cut (ps_fld (pv 0) (pe_callTy call_tuple_of (by rfl) T.tup_ boot_tuple' (pa_cons (pv 2) pa_nil)) rfl)
      (pss_cons (ps_expr (pe_call G4 hr rfl D4.M D4.F.kp D4.B .nil pass0 (pa_cons (pe_fld (pv 0) rfl) (pa_cons (pe_fld (pv 0) rfl) pa_nil))))
      (pss_one (ps_fld (pv 0) (pe_ix (ix_km km) (pe_glob (v := .ref dm) rfl hdm rfl) (pe_callB call_len_seq (by rfl) T.len_ PySem.boot_len (pa_cons (pe_fld (pv 0) rfl) pa_nil)) (fun _ _ => rfl)) rfl)))), ?_⟩
    have hlr : refs.length = rows.length := hE.1
    refine ⟨fun σ' H' => σ' = [some (.ref p), some (.ref G), some (.ref S), none] ∧ ∃ R refs', H' p = some (.ins C dx (putF "rows" (.ref R) [])) ∧ H' R = some (.tup refs') ∧ Each H' isT refs' rows ∧ (∀ c o, H c = some o → c ≠ p → H' c = some o), ?_, ?_⟩
    rcases hG with hG | hG
    · refine .inl ⟨_, rfl, G, rfl, ⟨_, hG⟩, fun Dd hD => ?_⟩
      refine lc_list (K := K) (a := G) (xs := refs) (fun i H' => Same H H' ∧ ∃ acc, H' Dd = some (.lst acc) ∧ Each H' isT acc (rows.take i)) ⟨Same.new hD, [], upd_same, by rw [List.take_zero]; exact Each.nil⟩ (fun i H' _ q => SqL.up hG q.1) ?_ ?_
      · rintro i x H' hx ⟨sm, acc, hd, he⟩
        have hi : i < rows.length := by rw [← hlr]; exact (List.getElem?_eq_some_iff.mp hx).1
        have hr' : rows[i]? = some rows[i] := List.getElem?_eq_getElem hi
        obtain ⟨c, rfl, hc⟩ := hE.2 i x _ hx hr'
        have hal : acc.length < sizeLine := by
          rw [he.1, List.length_take]
          exact Nat.lt_of_le_of_lt (Nat.le_trans (Nat.min_le_left _ _) (Nat.le_of_lt hi)) (Nat.lt_of_le_of_lt gd.most (by decide))
        refine ⟨rfl, ?_⟩
        dsimp only [tYes]
        rw [if_pos rfl]
        rcases hc with hc | hc
        · refine ⟨_, rfl, c, _, rfl, .inr ⟨SqT.of (sm _ _ hc), acc, hd, hal, ?_, _, upd_same, ?_⟩⟩
          · intro c' o e
            rw [upd_ne (ne_of_none e hD)]
            exact sm _ _ e
          · rw [take_succ' hr']
            exact Each.push (he.imp fun c' r' q => q.lst hd) ((show isT H' c rows[i] from sm _ _ hc).lst hd)
        · refine ⟨_, rfl, c, _, rfl, .inl ⟨SqL.of (sm _ _ hc), fun l hl => ⟨acc, ?_, hal, ?_, _, upd_same, ?_⟩⟩⟩
          · rw [upd_ne (ne_of_none hd hl)]
            exact hd
          · intro c' o e
            rw [upd_ne (ne_of_none e hD), upd_ne (ne_of_none (sm _ _ e) hl)]
            exact sm _ _ e
          · have hd' : (upd H' l (.tup (rv rows[i]))) Dd = some (.lst acc) := by rw [upd_ne (ne_of_none hd hl)]; exact hd
            rw [take_succ' hr']
            exact Each.push ((he.sameT (Same.new hl)).imp fun c' r' q => q.lst hd') ((show isT (upd H' l (.tup (rv rows[i]))) l rows[i] from upd_same).lst hd')
      rintro H1 ⟨s1, acc, hd, he⟩
      rw [hlr, List.take_length] at he
      refine ⟨Dd, _, rfl, .inl ⟨SqL.of hd, fun l hl => ?_⟩⟩
      have hp1 : (upd H1 l (.tup acc)) p = some (.ins C dx []) := by rw [upd_ne (ne_of_none (s1 _ _ hp) hl)]; exact s1 _ _ hp
      refine ⟨_, rfl, p, C, dx, _, rfl, hp1, T.cl, T.nR, (by show 0 < 1000; decide), rfl, l, acc, upd_same, ?_, ?_, ?_⟩
      · rw [upd_ne (ne_of hp1 upd_same (by intro z; cases z)).symm]
        exact upd_same
      · exact (he.sameT (Same.new hl)).imp fun c' r' q => isT.ins q hp1
      · intro c o e hc
        rw [upd_ne hc, upd_ne (ne_of_none (s1 _ _ e) hl)]
        exact s1 _ _ e
    · refine .inr ⟨_, rfl, G, rfl, ⟨_, hG⟩, fun Dd hD => ?_⟩
      refine lc_tup (K := K) (a := G) (xs := refs) (fun i H' => Same H H' ∧ ∃ acc, H' Dd = some (.lst acc) ∧ Each H' isT acc (rows.take i)) ⟨Same.new hD, [], upd_same, by rw [List.take_zero]; exact Each.nil⟩ (fun i H' _ q => SqT.up hG q.1) ?_ ?_
      · rintro i x H' hx ⟨sm, acc, hd, he⟩
        have hi : i < rows.length := by rw [← hlr]; exact (List.getElem?_eq_some_iff.mp hx).1
        have hr' : rows[i]? = some rows[i] := List.getElem?_eq_getElem hi
        obtain ⟨c, rfl, hc⟩ := hE.2 i x _ hx hr'
        have hal : acc.length < sizeLine := by
          rw [he.1, List.length_take]
          exact Nat.lt_of_le_of_lt (Nat.le_trans (Nat.min_le_left _ _) (Nat.le_of_lt hi)) (Nat.lt_of_le_of_lt gd.most (by decide))
        refine ⟨rfl, ?_⟩
        dsimp only [tYes]
        rw [if_pos rfl]
        rcases hc with hc | hc
        · refine ⟨_, rfl, c, _, rfl, .inr ⟨SqT.of (sm _ _ hc), acc, hd, hal, ?_, _, upd_same, ?_⟩⟩
          · intro c' o e
            rw [upd_ne (ne_of_none e hD)]
            exact sm _ _ e
          · rw [take_succ' hr']
            exact Each.push (he.imp fun c' r' q => q.lst hd) ((show isT H' c rows[i] from sm _ _ hc).lst hd)
        · refine ⟨_, rfl, c, _, rfl, .inl ⟨SqL.of (sm _ _ hc), fun l hl => ⟨acc, ?_, hal, ?_, _, upd_same, ?_⟩⟩⟩
          · rw [upd_ne (ne_of_none hd hl)]
            exact hd
          · intro c' o e
            rw [upd_ne (ne_of_none e hD), upd_ne (ne_of_none (sm _ _ e) hl)]
            exact sm _ _ e
          · have hd' : (upd H' l (.tup (rv rows[i]))) Dd = some (.lst acc) := by rw [upd_ne (ne_of_none hd hl)]; exact hd
            rw [take_succ' hr']
            exact Each.push ((he.sameT (Same.new hl)).imp fun c' r' q => q.lst hd') ((show isT (upd H' l (.tup (rv rows[i]))) l rows[i] from upd_same).lst hd')
      rintro H1 ⟨s1, acc, hd, he⟩
      rw [hlr, List.take_length] at he
      refine ⟨Dd, _, rfl, .inl ⟨SqL.of hd, fun l hl => ?_⟩⟩
      have hp1 : (upd H1 l (.tup acc)) p = some (.ins C dx []) := by rw [upd_ne (ne_of_none (s1 _ _ hp) hl)]; exact s1 _ _ hp
      refine ⟨_, rfl, p, C, dx, _, rfl, hp1, T.cl, T.nR, (by show 0 < 1000; decide), rfl, l, acc, upd_same, ?_, ?_, ?_⟩
      · rw [upd_ne (ne_of hp1 upd_same (by intro z; cases z)).symm]
        exact upd_same
      · exact (he.sameT (Same.new hl)).imp fun c' r' q => isT.ins q hp1
      · intro c o e hc
        rw [upd_ne hc, upd_ne (ne_of_none (s1 _ _ e) hl)]
        exact s1 _ _ e
    rintro _ H1 ⟨rfl, R, refs', hp1, hR1, hE1, kp1⟩
    have hS1 : Sq K H1 S (starts.map V.int) := Sq.keep hS hp kp1
    refine ⟨fun σ' H' => σ' = [some (.ref p), some (.ref G), some (.ref S), none] ∧ ∃ S', H' p = some (.ins C dx (putF "starts" (.ref S') (putF "rows" (.ref R) []))) ∧ H' R = some (.tup refs') ∧ Each H' isT refs' rows ∧ SqT K H' S' (starts.map V.int) ∧ (∀ c o, H c = some o → c ≠ p → H' c = some o), ?_, ?_⟩
    · rcases hS1 with hS1 | hS1
      · refine ⟨_, rfl, S, _, rfl, .inl ⟨hS1, fun l hl => ?_⟩⟩
        have hp2 : (upd H1 l (.tup (starts.map V.int))) p = some (.ins C dx (putF "rows" (.ref R) [])) := by rw [upd_ne (ne_of_none hp1 hl)]; exact hp1
        refine ⟨_, rfl, p, C, dx, _, rfl, hp2, T.cl, T.nS, (by show 1 < 1000; decide), rfl, l, upd_same, ?_, ?_, ?_, ?_⟩
        · rw [upd_ne (ne_of (Same.new hl _ _ hR1) hp2 (by intro z; cases z))]
          exact Same.new hl _ _ hR1
        · exact (hE1.sameT (Same.new hl)).imp fun c' r' q => isT.ins q hp2
        · exact SqT.ins (SqT.of upd_same) hp2
        · intro c o e hc
          rw [upd_ne hc]
          exact Same.new hl _ _ (kp1 _ _ e hc)
      · refine ⟨_, rfl, S, _, rfl, .inr ⟨hS1, ?_⟩⟩
        refine ⟨_, rfl, p, C, dx, _, rfl, hp1, T.cl, T.nS, (by show 1 < 1000; decide), rfl, S, upd_same, ?_, ?_, ?_, ?_⟩
        · rw [upd_ne (ne_of hR1 hp1 (by intro z; cases z))]
          exact hR1
        · exact hE1.imp fun c' r' q => isT.ins q hp1
        · exact SqT.ins hS1 hp1
        · intro c o e hc
          rw [upd_ne hc]
          exact kp1 _ _ e hc
    rintro _ H2 ⟨rfl, S', hp2, hR2, hE2, hS2, kp2⟩
    refine ⟨_, rfl, p, C, dx, _, _, rfl, hp2, T.cl, T.nR, rf2_rows R S', _, rfl, p, C, dx, _, _, rfl, hp2, T.cl, T.nS, rf2_starts R S', R, S', refs', rows, starts, k, rfl, hR2, hE2, hS2, gd.one, gd.most, gd.ok, gd.root, gd.st, fun H3 s3 => ?_⟩
    refine ⟨_, rfl, p, C, dx, _, _, rfl, s3 _ _ hp2, T.cl, T.nS, rf2_starts R S', S', _, rfl, .inr (SqT.up hS2 s3), (starts.length : Int), k, rfl, ?_, gd.root, ?_⟩
    · show V.int (((starts.map V.int).length : Nat) : Int) = _
      rw [List.length_map]
    refine ⟨_, rfl, p, C, dx, _, rfl, s3 _ _ hp2, T.cl, T.nM, (by show 2 < 1000; decide), ?_⟩
    refine kk _ ⟨R, S', refs', upd_same, ?_, ?_, ?_⟩ ?_
    · rw [upd_ne (ne_of (s3 _ _ hR2) (s3 _ _ hp2) (by intro z; cases z))]
      exact s3 _ _ hR2
    · exact (hE2.sameT s3).imp fun c' r' q => isT.ins q (s3 _ _ hp2)
    · exact SqT.ins (SqT.up hS2 s3) (s3 _ _ hp2)
    · intro c o e hc
      rw [upd_ne hc]
      exact s3 _ _ (kp2 _ _ e hc)
end
end PA

set_option maxHeartbeats 2000000
namespace PA
/-- below 2 ^ n in size -/
abbrev Sm (n : Nat) (x : Int) : Prop := x.natAbs < 2 ^ n
theorem Sm.mono {n m : Nat} {x : Int} (h : Sm n x) (hn : n ≤ m) : Sm m x := Nat.lt_of_lt_of_le h (Nat.pow_le_pow_right (by decide) hn)
theorem Sm.mul {n m k : Nat} {x y : Int} (hx : Sm n x) (hy : Sm m y) (h : n + m ≤ k) : Sm k (x * y) := by
  refine Sm.mono (n := n + m) ?_ h
  unfold Sm
  rw [Int.natAbs_mul, Nat.pow_add]
  exact Nat.mul_lt_mul'' hx hy
theorem Sm.add {n k : Nat} {x y : Int} (hx : Sm n x) (hy : Sm n y) (h : n + 1 ≤ k) : Sm k (x + y) := by
  refine Sm.mono (n := n + 1) ?_ h
  unfold Sm at *
  rw [Nat.pow_succ]
  omega
theorem Sm.sub {n k : Nat} {x y : Int} (hx : Sm n x) (hy : Sm n y) (h : n + 1 ≤ k) : Sm k (x - y) := by
  refine Sm.mono (n := n + 1) ?_ h
  unfold Sm at *
  rw [Nat.pow_succ]
  omega
theorem Sm.neg {n : Nat} {x : Int} (hx : Sm n x) : Sm n (-x) := by
  unfold Sm at *
  rw [Int.natAbs_neg]
  exact hx
theorem Sm.le {n : Nat} {x y : Int} (hx : Sm n x) (h : y.natAbs ≤ x.natAbs) : Sm n y := Nat.lt_of_le_of_lt h hx
theorem Sm.one {n : Nat} (h : 0 < n) : Sm n 1 := by
  show (1 : Int).natAbs < 2 ^ n
  exact Nat.one_lt_two_pow (by omega)

/-- the divisor that a Ratio shortens by -/
def shr (t b : Int) : Int := if b < 0 then -((Nat.gcd t.natAbs b.natAbs : Nat) : Int) else ((Nat.gcd t.natAbs b.natAbs : Nat) : Int)
/-- lowest terms -/
structure Low (T B : Int) : Prop where
  pos : 0 < B
  cop : Nat.gcd T.natAbs B.natAbs = 1
theorem low_one (i : Int) : Low i 1 := ⟨by decide, Nat.gcd_one_right _⟩
theorem gcd_key {a b c d g : Nat} (h1 : a = c * g) (h2 : b = d * g) : Nat.gcd a b = Nat.gcd c d * g := by
  rw [h1, h2]
  exact Nat.gcd_mul_right _ _ _
theorem rat_mk {t b : Int} (hb : b ≠ 0) : shr t b ≠ 0 ∧ (shr t b).natAbs ≤ b.natAbs ∧ Low (t.fdiv (shr t b)) (b.fdiv (shr t b)) ∧ (t.fdiv (shr t b)) * b = t * (b.fdiv (shr t b)) ∧
    (t.fdiv (shr t b)).natAbs ≤ t.natAbs ∧ (b.fdiv (shr t b)).natAbs ≤ b.natAbs := by
  have hg : 0 < Nat.gcd t.natAbs b.natAbs := Nat.gcd_pos_of_pos_right _ (Int.natAbs_pos.mpr hb)
  have hgb : Nat.gcd t.natAbs b.natAbs ≤ b.natAbs := Nat.gcd_le_right _ (Int.natAbs_pos.mpr hb)
  have hsn : (shr t b).natAbs = Nat.gcd t.natAbs b.natAbs := by
    unfold shr
    split
    · rw [Int.natAbs_neg, Int.natAbs_natCast]
    · rw [Int.natAbs_natCast]
  have hs0 : shr t b ≠ 0 := by
    intro z
    rw [z] at hsn
    simp at hsn
    omega
  have dv : ∀ y : Int, (Nat.gcd t.natAbs b.natAbs) ∣ y.natAbs → ∃ q : Int, y = q * shr t b := by
    intro y hy
    have h1 : ((Nat.gcd t.natAbs b.natAbs : Nat) : Int) ∣ y := Int.ofNat_dvd_left.mpr hy
    obtain ⟨q, hq⟩ := h1
    unfold shr
    split
    · exact ⟨-q, by rw [Int.neg_mul_neg, Int.mul_comm]; exact hq⟩
    · exact ⟨q, by rw [Int.mul_comm]; exact hq⟩
  obtain ⟨T, hT⟩ := dv t (Nat.gcd_dvd_left _ _)
  obtain ⟨B, hB⟩ := dv b (Nat.gcd_dvd_right _ _)
  have eT : t.fdiv (shr t b) = T := by
    conv => lhs; lhs; rw [hT]
    exact Int.mul_fdiv_cancel _ hs0
  have eB : b.fdiv (shr t b) = B := by
    conv => lhs; lhs; rw [hB]
    exact Int.mul_fdiv_cancel _ hs0
  rw [eT, eB]
  have nT : t.natAbs = T.natAbs * Nat.gcd t.natAbs b.natAbs := by
    conv => lhs; rw [hT, Int.natAbs_mul, hsn]
  have nB : b.natAbs = B.natAbs * Nat.gcd t.natAbs b.natAbs := by
    conv => lhs; rw [hB, Int.natAbs_mul, hsn]
  refine ⟨hs0, by rw [hsn]; exact hgb, ⟨?_, ?_⟩, ?_, ?_, ?_⟩
  · have hB0 : B ≠ 0 := by
      intro z
      rw [z, Int.zero_mul] at hB
      exact hb hB
    rcases Int.lt_or_gt_of_ne hB0 with h | h
    · exfalso
      unfold shr at hB
      split at hB
      · rename_i hneg
        have : 0 < B * -((Nat.gcd t.natAbs b.natAbs : Nat) : Int) := Int.mul_pos_of_neg_of_neg h (by omega)
        omega
      · rename_i hneg
        have : B * ((Nat.gcd t.natAbs b.natAbs : Nat) : Int) < 0 := Int.mul_neg_of_neg_of_pos h (by omega)
        omega
    · exact h
  · have e : Nat.gcd t.natAbs b.natAbs = Nat.gcd T.natAbs B.natAbs * Nat.gcd t.natAbs b.natAbs := by
      exact gcd_key nT nB
    have e2 : 1 * Nat.gcd t.natAbs b.natAbs = Nat.gcd T.natAbs B.natAbs * Nat.gcd t.natAbs b.natAbs := by rw [Nat.one_mul]; exact e
    exact (Nat.eq_of_mul_eq_mul_right hg e2).symm
  · calc T * b = T * (B * shr t b) := by rw [← hB]
      _ = (T * shr t b) * B := by rw [Int.mul_comm B, ← Int.mul_assoc]
      _ = t * B := by rw [← hT]
  · rw [nT]; exact Nat.le_mul_of_pos_right _ hg
  · rw [nB]; exact Nat.le_mul_of_pos_right _ hg
/-- a fraction has one lowest form -/
theorem Low.uniq {T B T' B' : Int} (h : Low T B) (h' : Low T' B') (e : T * B' = T' * B) : T = T' ∧ B = B' := by
  have n : T.natAbs * B'.natAbs = T'.natAbs * B.natAbs := by rw [← Int.natAbs_mul, ← Int.natAbs_mul, e]
  have d1 : B.natAbs ∣ B'.natAbs := by
    have : B.natAbs ∣ T.natAbs * B'.natAbs := ⟨T'.natAbs, by rw [n, Nat.mul_comm]⟩
    exact (Nat.Coprime.symm h.cop).dvd_of_dvd_mul_left this
  have d2 : B'.natAbs ∣ B.natAbs := by
    have : B'.natAbs ∣ T'.natAbs * B.natAbs := ⟨T.natAbs, by rw [← n, Nat.mul_comm]⟩
    exact (Nat.Coprime.symm h'.cop).dvd_of_dvd_mul_left this
  have eB : B = B' := by
    have := Nat.dvd_antisymm d1 d2
    have p1 := h.pos
    have p2 := h'.pos
    omega
  subst eB
  have hB : B ≠ 0 := by have := h.pos; omega
  exact ⟨Int.eq_of_mul_eq_mul_right hB e, rfl⟩
theorem Low.neg {T B : Int} (h : Low T B) : Low (-T) B := ⟨h.pos, by rw [Int.natAbs_neg]; exact h.cop⟩
/-- a = n / d and b = n / d -/
theorem cross {a b n d x y : Int} (hb : b ≠ 0) (h1 : a * d = n * b) (h2 : n * y = x * d) (hd : d ≠ 0) : a * y = x * b := by
  have : (a * y) * d = (x * b) * d := by
    calc (a * y) * d = (a * d) * y := by rw [Int.mul_assoc, Int.mul_comm y, ← Int.mul_assoc]
      _ = (n * b) * y := by rw [h1]
      _ = (n * y) * b := by rw [Int.mul_assoc, Int.mul_comm b, ← Int.mul_assoc]
      _ = (x * d) * b := by rw [h2]
      _ = (x * b) * d := by rw [Int.mul_assoc, Int.mul_comm d, ← Int.mul_assoc]
  exact Int.eq_of_mul_eq_mul_right hd this
end PA

set_option maxHeartbeats 2000000
namespace PA
open PySem L2 RZ
open C8 (pss_cut tCut)
abbrev sDraw : Stmt := top 48
abbrev sStart : Stmt := top 49
/-! ### data of ints -/
theorem ints_lay : ∀ ns : List Int, PyData.canLayAll0 (ns.map PyData.int) = true
  | [] => by simp [PyData.canLayAll0]
  | z :: zs => by simp [PyData.canLayAll0, PyData.canLay0, ints_lay zs]
theorem ints_depth : ∀ ns : List Int, PyData.depthAll (ns.map PyData.int) ≤ 2
  | [] => by simp [PyData.depthAll]
  | z :: zs => by
    have h1 := ints_depth zs
    simp only [List.map_cons, PyData.depthAll, PyData.depth]
    omega
theorem ints_shaped (ns : List Int) : SeqAt.shaped (.list (ns.map PyData.int)) = true := by
  have h1 := ints_depth ns
  have h2 : PyData.depth (.list (ns.map PyData.int)) ≤ 64 := by
    simp only [PyData.depth]
    omega
  show (PyData.canLay0 (.list (ns.map PyData.int)) && decide (PyData.depth (.list (ns.map PyData.int)) ≤ 64)) = true
  rw [Bool.and_eq_true]
  exact ⟨by simp only [PyData.canLay0]; exact ints_lay ns, decide_eq_true h2⟩
theorem dp_ints {K : PySem.W.Frag} {H : Hp} : ∀ ns : List Int, DpAll K H (ns.map V.int) (ns.map PyData.int)
  | [] => .nil
  | z :: zs => .cons (.int z) (dp_ints zs)
theorem ints_nil (ns : List Int) : PyData.eqv (.list (ns.map PyData.int)) (.list []) = ns.isEmpty := by
  cases ns with
  | nil => simp [PyData.eqv, PyData.eqvAll]
  | cons z zs => simp [PyData.eqv, PyData.eqvAll]
/-! ### the stream of draws: the list at a, the numbers left at l, n draws made -/
def StreamAt (H : Hp) (a l : Addr) (n : Nat) : Prop := a ≠ l ∧ ∃ (ns : List Int) (x z : Int), H a = some (.lst [.ref l, .int x, .int (n : Int), .int z]) ∧ H l = some (.lst (ns.map V.int)) ∧ ns.length ≤ 63 ∧ 0 ≤ x ∧ 0 ≤ z ∧ z < 2147483647
/-- all but the stream is kept -/
def Keep (a l : Addr) (H H' : Hp) : Prop := ∀ c o, c ≠ a → c ≠ l → H c = some o → H' c = some o
theorem Keep.refl (a l : Addr) (H : Hp) : Keep a l H H := fun _ _ _ _ h => h
theorem Keep.trans {a l : Addr} {H H1 H2 : Hp} (h : Keep a l H H1) (h' : Keep a l H1 H2) : Keep a l H H2 := fun c o x y e => h' c o x y (h c o x y e)
theorem Keep.of {a l : Addr} {H H' : Hp} (h : Same H H') : Keep a l H H' := fun c o _ _ e => h c o e
theorem StreamAt.same {H H' : Hp} {a l : Addr} {n : Nat} (h : StreamAt H a l n) (s : Same H H') : StreamAt H' a l n := by
  obtain ⟨ne, ns, x, z, h1, h2, h3⟩ := h
  exact ⟨ne, ns, x, z, s _ _ h1, s _ _ h2, h3⟩
def spDraw : Sp := fun vs H Q _ => ∃ (a l : Addr) (n : Nat) (many : Int), vs = [.ref a, .int many] ∧ StreamAt H a l n ∧ n ≤ 100000 ∧ 0 < many ∧ Sm 9000 many ∧
  ∀ (r : Int) (H' : Hp), 0 ≤ r → r < many → StreamAt H' a l (n + 1) → Keep a l H H' → Q (.int r) H'
section
variable {P : Program} {w : World} {K : PySem.W.Frag} {mg : Str → Option Value} {base : Heap} {C : Addr}
theorem scDraw : FnScope ["_law_stream", "_law_many", "_law_digit", "_law_mixed_here"] ["_law_stream", "_law_many"] (defScope sDraw) := ⟨rfl, rfl, rfl, by decide +kernel, rfl, by decide +kernel, by decide +kernel⟩
theorem ok_draw {f : Addr} {fd : FuncData} (F : Fun K "_law_draw" "_law_draw" sDraw f fd) (T : Txt K mg C) : FnOk P w K mg base CX0 1 f fd ["_law_stream", "_law_many"] spDraw := by
  refine F.ok scDraw (fun vs H Q E h => ?_) (fun cdv A outer s H vs Q E hr h => ?_)
  · obtain ⟨a, l, n, many, rfl, _⟩ := h
    rfl
  · obtain ⟨a, l, n, many, rfl, ⟨ne, ns, x, z, h1, h2, hl, hx, hz0, hz1⟩, hn, hm, hms, k⟩ := h
    have hW : ∀ j : Int, CDivW j many := fun j => ⟨hm, Nat.lt_of_lt_of_le (PySem.Flt.log2_lt_of (by decide) hms) (Nat.le_refl _)⟩
    refine ⟨_, pss_cut (ps_asg (pe_op op_add (pe_ix ix_list (pv 0) pe_int (fun _ _ => rfl)) pe_int) (pg_sub (pv 0) pe_int set_list))
      (pss_cut (ps_if (PW.pt (pw_and (pt_cmpR op_eq (pe_ix ix_list (pv 0) pe_int (fun _ _ => rfl)) pe_int (nomark _)) (pw_and1 (pt_cmpR (op_neD hr.units) (pe_ix ix_list (pv 0) pe_int (fun _ _ => rfl)) (pe_lst pa_nil) (nomark _)))))
        (pss_cons (ps_asg (pe_bm PySem.F.plainAttrs_list PySem.F.slot_list_pop PySem.F.type_list_pop mt_popAt (pe_ix ix_list (pv 0) pe_int (fun _ _ => rfl)) (pa_cons pe_int pa_nil)) (pg_sub (pv 0) pe_int set_list))
          (pss_one (ps_if (pt_cmpR op_lt (pe_ix ix_list (pv 0) pe_int (fun _ _ => rfl)) (pe_op op_pow pe_int pe_int) (nomark _))
            (pss_cons (ps_asg (pe_op op_mod (pe_callTy call_int1 (by rfl) T.int_ boot_int' (pa_cons (pe_op op_add (pe_op op_add (pe_op op_mul (pe_ix ix_list (pv 0) pe_int (fun _ _ => rfl)) pe_int) (pe_ix ix_list (pv 0) pe_int (fun _ _ => rfl))) pe_int) pa_nil)) pe_int) (pg_sub (pv 0) pe_int set_list))
              (pss_one (ps_asg pe_int (pg_sub (pv 0) pe_int set_list)))) pss_nil))) pss_nil)
      (pss_cons (ps_if (pt_cmpR op_gt (pe_ix ix_list (pv 0) pe_int (fun _ _ => rfl)) pe_int (nomark _))
        (pss_cons (ps_set (i := 2) scDraw.nd rfl (Or.inl rfl) (pe_op op_mod (pe_callTy call_int1 (by rfl) T.int_ boot_int' (pa_cons (pe_ix ix_list (pv 0) pe_int (fun _ _ => rfl)) pa_nil)) (pv 1)))
          (pss_cons (ps_asg (pe_op op_fdivW (pe_ix ix_list (pv 0) pe_int (fun _ _ => rfl)) (pv 1)) (pg_sub (pv 0) pe_int set_list))
            (pss_one (ps_ret (pv 2))))) pss_nil)
      (pss_cons (ps_set (i := 3) scDraw.nd rfl (Or.inl rfl) (pe_op op_mod (pe_op op_pow (pe_op op_add (pe_op op_add (pe_ix ix_list (pv 0) pe_int (fun _ _ => rfl)) (pe_op op_mul pe_int (pe_ix ix_list (pv 0) pe_int (fun _ _ => rfl)))) pe_int) pe_int) pe_int))
      (pss_one (ps_ret (pe_op op_mod (pe_op op_mod (pe_op op_pow (pe_op op_add (pe_op op_add (pe_op op_mul (pv 3) pe_int) (pe_op op_mul (pe_op op_mul pe_int (pe_ix ix_list (pv 0) pe_int (fun _ _ => rfl))) (pe_ix ix_list (pv 0) pe_int (fun _ _ => rfl)))) pe_int) pe_int) pe_int) (pv 1))))))), ?_⟩
    refine ⟨fun σ' H' => σ' = [some (V.ref a), some (V.int many), none, none] ∧ H' = upd H a (.lst [.ref l, .int x, .int ((n : Int) + 1), .int z]), ?_, ?_⟩
    · exact ⟨_, rfl, a, _, 2, _, rfl, rfl, SqL.of h1, rfl, _, _, rfl, rfl, _, rfl, a, _, 2, 2, rfl, rfl, h1, rfl, rfl, rfl⟩
    rintro _ _ ⟨rfl, rfl⟩
    refine ⟨fun σ' H' => σ' = [some (V.ref a), some (V.int many), none, none] ∧ ∃ (ns' : List Int) (x' z' : Int), H' a = some (.lst [.ref l, .int x', .int ((n : Int) + 1), .int z']) ∧ H' l = some (.lst (ns'.map V.int)) ∧ ns'.length ≤ 63 ∧ 0 ≤ x' ∧ 0 ≤ z' ∧ z' < 2147483647 ∧ Keep a l H H', ?_, ?_⟩
    · have kp1 : Keep a l H (upd H a (.lst [.ref l, .int x, .int ((n : Int) + 1), .int z])) := fun c o ca _ e => by rw [upd_ne ca]; exact e
      have hl1 : (upd H a (.lst [.ref l, .int x, .int ((n : Int) + 1), .int z])) l = some (.lst (ns.map V.int)) := by rw [upd_ne ne.symm]; exact h2
      refine ⟨_, rfl, a, _, 1, _, rfl, rfl, SqL.of upd_same, rfl, rfl, _, rfl, ifD_2 (fun hx0 => ?_) (fun _ => iteF ?_)⟩
      · refine ⟨_, rfl, a, _, 0, _, rfl, rfl, SqL.of upd_same, rfl, Nat.zero_le _, fun p hp => ?_⟩
        have npa : a ≠ p := fun e => by rw [← e, upd_same] at hp; cases hp
        have npl : l ≠ p := ne_of_none hl1 hp
        have kp2 : Keep a l H (upd (upd H a (.lst [.ref l, .int x, .int ((n : Int) + 1), .int z])) p (.lst [])) := fun c o ca cl e => by
          rw [upd_ne (ne_of_none (kp1 c o ca cl e) hp)]; exact kp1 c o ca cl e
        refine ⟨.list (ns.map PyData.int), .list [], .lst (SqL.of (by rw [upd_ne npl]; exact hl1)) (dp_ints ns), .lst (SqL.of upd_same) .nil, ints_shaped ns, ints_shaped [], _, rfl, ?_⟩
        rw [ints_nil]
        cases ns with
        | nil => exact iteF ⟨rfl, [], x, z, by rw [upd_ne npa, upd_same], by rw [upd_ne npl]; exact hl1, Nat.zero_le _, hx, hz0, hz1, kp2⟩
        | cons y ys =>
          refine iteT ?_
          have ga : (upd (upd H a (.lst [.ref l, .int x, .int ((n : Int) + 1), .int z])) p (.lst [])) a = some (.lst [.ref l, .int x, .int ((n : Int) + 1), .int z]) := by rw [upd_ne npa, upd_same]
          have gl : (upd (upd H a (.lst [.ref l, .int x, .int ((n : Int) + 1), .int z])) p (.lst [])) l = some (.lst ((y :: ys).map V.int)) := by rw [upd_ne npl]; exact hl1
          generalize (upd (upd H a (.lst [.ref l, .int x, .int ((n : Int) + 1), .int z])) p (.lst [])) = Hb at ga gl kp2
          refine ⟨_, rfl, a, _, 0, _, rfl, rfl, SqL.of ga, rfl, .inl ⟨rfl, _, SqL.of gl⟩, l, _, 0, 0, .int y, rfl, rfl, gl, by decide, by decide, (ixN_seq (Evl.ixN_nat (j := 0) (by simp))).1, rfl, ?_⟩
          have ga2 : (upd Hb l (.lst (((y :: ys).map V.int).eraseIdx 0))) a = some (.lst [.ref l, .int x, .int ((n : Int) + 1), .int z]) := by rw [upd_ne ne]; exact ga
          refine ⟨_, rfl, a, _, 1, 1, rfl, rfl, ga2, rfl, ?_⟩
          have kp3 : ∀ o, Keep a l H (upd (upd Hb l (.lst (((y :: ys).map V.int).eraseIdx 0))) a o) := fun o c u ca cl e => by rw [upd_ne ca, upd_ne cl]; exact kp2 c u ca cl e
          have gl3 : ∀ o, (upd (upd Hb l (.lst (((y :: ys).map V.int).eraseIdx 0))) a o) l = some (.lst (ys.map V.int)) := fun o => by rw [upd_ne ne.symm, upd_same]; rfl
          have hys : ys.length ≤ 63 := Nat.le_trans (Nat.le_succ _) hl
          refine ⟨_, rfl, a, _, 1, _, rfl, rfl, SqL.of upd_same, rfl, 10, 18, rfl, rfl, (by show CPow 10 18; unfold CPow; decide), _, _, rfl, rfl, _, rfl, ifD_2 (fun hy => ?_) (fun hy => ?_)⟩
          · refine ⟨_, rfl, a, _, 3, _, rfl, rfl, SqL.of upd_same, rfl, _, _, rfl, rfl, .inr (by decide), _, rfl, a, _, 1, _, rfl, rfl, SqL.of upd_same, rfl, _, _, rfl, rfl, _, _, rfl, rfl, .inl ⟨_, rfl, _, _, rfl, rfl, (by show (0 : Int) < 2147483647; decide), _, rfl, a, _, 3, 3, rfl, rfl, upd_same, rfl, ?_⟩⟩
            refine ⟨_, rfl, a, _, 1, 1, rfl, rfl, upd_same, rfl, ?_⟩
            rw [upd_upd, upd_upd]
            exact ⟨rfl, ys, 0, (z * 31 + y + 7) % 2147483647, upd_same, gl3 _, hys, by decide, Int.emod_nonneg _ (by decide), Int.emod_lt_of_pos _ (by decide), kp3 _⟩
          · exact ⟨rfl, ys, y, z, upd_same, gl3 _, hys, by
              have h18 : (0 : Int) ≤ 10 ^ (18 : Int).toNat := by decide
              omega, hz0, hz1, kp3 _⟩
      · exact ⟨rfl, ns, x, z, upd_same, hl1, hl, hx, hz0, hz1, kp1⟩
    rintro _ H1 ⟨rfl, ns', x', z', g1, g2, gl, gx, gz0, gz1, kp⟩
    refine ⟨_, rfl, a, _, 1, _, rfl, rfl, SqL.of g1, rfl, _, _, rfl, rfl, _, rfl, ifD_2 (fun hp => ?_) (fun _ => ?_)⟩
    · refine ⟨_, rfl, a, _, 1, _, rfl, rfl, SqL.of g1, rfl, .inl ⟨_, rfl, _, rfl, _, _, rfl, rfl, hm, ?_⟩⟩
      refine ⟨_, rfl, a, _, 1, _, rfl, rfl, SqL.of g1, rfl, _, rfl, _, _, rfl, rfl, hW _, _, rfl, a, _, 1, 1, rfl, rfl, g1, rfl, _, rfl, ?_⟩
      refine k (x' % many) _ (Int.emod_nonneg _ (by omega)) (Int.emod_lt_of_pos _ hm) ⟨ne, ns', x' / many, z', upd_same, by rw [upd_ne ne.symm]; exact g2, gl, Int.ediv_nonneg gx (by omega), gz0, gz1⟩ fun c o ca cl e => by
        rw [upd_ne ca]; exact kp c o ca cl e
    · have hn' : (n : Int) ≤ 100000 := by omega
      have hn0 : (0 : Int) ≤ n := by omega
      refine ⟨_, rfl, a, _, 3, _, rfl, rfl, SqL.of g1, rfl, _, rfl, a, _, 2, _, rfl, rfl, SqL.of g1, rfl, _, _, rfl, rfl, .inl (by decide), _, _, rfl, rfl, _, _, rfl, rfl, _, _, rfl, rfl, ?_, _, _, rfl, rfl, (by show (0 : Int) < 2147483629; decide), ?_⟩
      · show CPow _ 5
        refine ⟨by decide, by decide, ?_⟩
        have e64 : (2 : Nat) ^ 64 = 18446744073709551616 := by decide
        rw [e64]
        omega
      · generalize hmx : ((z' + 104729 * ((n : Int) + 1) + 17) ^ (5 : Int).toNat) % 2147483629 = mx
        have m0 : 0 ≤ mx := by rw [← hmx]; exact Int.emod_nonneg _ (by decide)
        have m1 : mx < 2147483629 := by rw [← hmx]; exact Int.emod_lt_of_pos _ (by decide)
        refine ⟨_, rfl, _, _, rfl, rfl, .inr (by decide), _, rfl, a, _, 2, _, rfl, rfl, SqL.of g1, rfl, _, _, rfl, rfl, .inl (by decide), _, rfl, a, _, 2, _, rfl, rfl, SqL.of g1, rfl, _, _, rfl, rfl, .inr ?_, _, _, rfl, rfl, _, _, rfl, rfl, _, _, rfl, rfl, ?_, _, _, rfl, rfl, (by show (0 : Int) < 1000000007; decide), _, rfl, _, _, rfl, rfl, hm, ?_⟩
        · have e64 : (2 : Int) ^ 64 = 18446744073709551616 := by decide
          rw [e64]
          omega
        · show CPow _ 3
          refine ⟨by decide, by decide, ?_⟩
          have e64 : (2 : Nat) ^ 64 = 18446744073709551616 := by decide
          rw [e64]
          have q0 : 0 ≤ 40503 * ((n : Int) + 1) * ((n : Int) + 1) := Int.mul_nonneg (by omega) (by omega)
          have q1 : 40503 * ((n : Int) + 1) * ((n : Int) + 1) ≤ 40503 * 100001 * 100001 := Int.mul_le_mul (by omega) (by omega) (by omega) (by decide)
          omega
        · exact k _ _ (Int.emod_nonneg _ (by omega)) (Int.emod_lt_of_pos _ hm) ⟨ne, ns', x', z', g1, g2, gl, gx, gz0, gz1⟩ kp
end
theorem sm9000 {x : Int} {n : Nat} (h : Sm n x) (hn : n ≤ 9000) : Sm 9000 x := h.mono hn
theorem sm_small {x : Int} (h : x.natAbs < 8) : Sm 9000 x := sm9000 (n := 3) h (by decide)
def spStart (K : PySem.W.Frag) : Sp := fun vs H Q _ => ∃ (p : Addr) (ns : List Int), vs = [.ref p] ∧ SqL K H p (ns.map V.int) ∧ ns.length ≤ 63 ∧ ∀ (a l : Addr) (H' : Hp), StreamAt H' a l 0 → H a = none → H l = none → Same H H' → Q (.ref a) H'
section
variable {P : Program} {w : World} {K : PySem.W.Frag} {mg : Str → Option Value} {base : Heap} {C : Addr}
theorem scStart : FnScope ["_law_script"] ["_law_script"] (defScope sStart) := ⟨rfl, rfl, rfl, by decide +kernel, rfl, by decide +kernel, by decide +kernel⟩
theorem ok_start {f : Addr} {fd : FuncData} (F : Fun K "_law_start" "_law_start" sStart f fd) (T : Txt K mg C) : FnOk P w K mg base CX0 1 f fd ["_law_script"] (spStart K) := by
  refine F.ok scStart (fun vs H Q E h => ?_) (fun cdv A outer s H vs Q E hr h => ?_)
  · obtain ⟨p, ns, rfl, _⟩ := h
    rfl
  · obtain ⟨p, ns, rfl, hS, hl, k⟩ := h
    refine ⟨_, pss_one (ps_ret (pe_lst (pa_cons (pe_callTy call_list_of (by rfl) T.list_ boot_list' (pa_cons (pv 0) pa_nil)) (pa_cons pe_int (pa_cons pe_int (pa_cons pe_int pa_nil)))))), ?_⟩
    refine ⟨_, rfl, p, _, rfl, .inl hS, fun l hl' => ⟨by show 4 ≤ sizeLine; decide, fun a ha => ?_⟩⟩
    have nal : a ≠ l := fun e => by rw [e, upd_same] at ha; cases ha
    have ha0 : H a = Option.none := by rw [upd_ne nal] at ha; exact ha
    exact k a l _ ⟨nal, ns, 0, 0, upd_same, by rw [upd_ne nal.symm, upd_same], hl, by decide, by decide, by decide⟩ ha0 hl' ((Same.new hl').trans (Same.new ha))
end
end PA

set_option maxHeartbeats 4000000
namespace PA
open PySem L2 RZ
/-! ### a comprehension over zip -/
section
variable {K : PySem.W.Frag} {a b : Addr} {xs ys : List V} {g : TG} {tt : TT} {te : TE} {vs : List Nat} {σ : L2.St} {H1 : Hp} {D : Addr} {Qd : Hp → Prop}
theorem lc_zipL (hl : xs.length = ys.length) (Pv : Nat → Hp → Prop) (h0 : Pv 0 (upd H1 D (.lst []))) (hq : ∀ i H, Pv i H → SqL K H a xs ∧ SqL K H b ys)
    (hs : ∀ (i : Nat) (x y : V) (T : Addr) (H : Hp), xs[i]? = some x → ys[i]? = some y → Pv i H → H T = none → g (.ref T) (wipe σ vs) (upd H T (.tup [x, y])) fun σ2 H2 => wipe σ2 vs = wipe σ vs ∧ tt σ2 H2 fun c H3 =>
      if c = true then te σ2 H3 fun z H4 => ∃ acc, H4 D = some (.lst acc) ∧ acc.length < sizeLine ∧ Pv (i + 1) (upd H4 D (.lst (acc ++ [z]))) else Pv (i + 1) H3) (hd : ∀ H, Pv xs.length H → Qd H) :
    ∃ W : Nat → Nat → Hp → Prop, (∃ m, W 0 m (upd H1 D (.lst []))) ∧ ∀ i m H, W i m H →
      ((Itz K a b).stop i H ∧ Qd H) ∨ ((Itz K a b).go i H ∧ ∃ Nx : Hp → Prop, (∀ H', Nx H' → ∃ m', m' < m ∧ W (i + 1) m' H') ∧ ∀ x H', (Itz K a b).yld i H x H' → g x (wipe σ vs) H' fun σ2 H2 => wipe σ2 vs = wipe σ vs ∧ tt σ2 H2 fun c H3 =>
        if c = true then te σ2 H3 fun z H4 => ∃ acc, H4 D = some (.lst acc) ∧ acc.length < sizeLine ∧ Nx (upd H4 D (.lst (acc ++ [z]))) else Nx H3) := by
  refine ⟨fun i m H => m = xs.length - i ∧ i ≤ xs.length ∧ Pv i H, ⟨xs.length, rfl, Nat.zero_le _, h0⟩, ?_⟩
  rintro i m H ⟨rfl, hi, p⟩
  obtain ⟨qx, qy⟩ := hq i H p
  by_cases hlt : i < xs.length
  · have hx : xs[i]? = some xs[i] := List.getElem?_eq_getElem hlt
    have hlt2 : i < ys.length := by omega
    have hy : ys[i]? = some ys[i] := List.getElem?_eq_getElem hlt2
    refine .inr ⟨⟨xs, ys, _, _, qx, qy, hx, hy⟩, Pv (i + 1), fun H' p' => ⟨xs.length - (i + 1), by omega, rfl, hlt, p'⟩, fun v H' y => ?_⟩
    obtain ⟨T, x', y', rfl, hT, rfl, f1, f2⟩ := y
    exact hs i x' y' T H (f1 xs qx) (f2 ys qy) p hT
  · have e : i = xs.length := by omega
    subst e
    exact .inl ⟨⟨xs, ys, qx, qy, Or.inl (Nat.le_refl _)⟩, hd H p⟩
theorem lc_zipT (hl : xs.length = ys.length) (Pv : Nat → Hp → Prop) (h0 : Pv 0 (upd H1 D (.lst []))) (hq : ∀ i H, Pv i H → SqT K H a xs ∧ SqT K H b ys)
    (hs : ∀ (i : Nat) (x y : V) (T : Addr) (H : Hp), xs[i]? = some x → ys[i]? = some y → Pv i H → H T = none → g (.ref T) (wipe σ vs) (upd H T (.tup [x, y])) fun σ2 H2 => wipe σ2 vs = wipe σ vs ∧ tt σ2 H2 fun c H3 =>
      if c = true then te σ2 H3 fun z H4 => ∃ acc, H4 D = some (.lst acc) ∧ acc.length < sizeLine ∧ Pv (i + 1) (upd H4 D (.lst (acc ++ [z]))) else Pv (i + 1) H3) (hd : ∀ H, Pv xs.length H → Qd H) :
    ∃ W : Nat → Nat → Hp → Prop, (∃ m, W 0 m (upd H1 D (.lst []))) ∧ ∀ i m H, W i m H →
      ((ItzT K a b).stop i H ∧ Qd H) ∨ ((ItzT K a b).go i H ∧ ∃ Nx : Hp → Prop, (∀ H', Nx H' → ∃ m', m' < m ∧ W (i + 1) m' H') ∧ ∀ x H', (ItzT K a b).yld i H x H' → g x (wipe σ vs) H' fun σ2 H2 => wipe σ2 vs = wipe σ vs ∧ tt σ2 H2 fun c H3 =>
        if c = true then te σ2 H3 fun z H4 => ∃ acc, H4 D = some (.lst acc) ∧ acc.length < sizeLine ∧ Nx (upd H4 D (.lst (acc ++ [z]))) else Nx H3) := by
  refine ⟨fun i m H => m = xs.length - i ∧ i ≤ xs.length ∧ Pv i H, ⟨xs.length, rfl, Nat.zero_le _, h0⟩, ?_⟩
  rintro i m H ⟨rfl, hi, p⟩
  obtain ⟨qx, qy⟩ := hq i H p
  by_cases hlt : i < xs.length
  · have hx : xs[i]? = some xs[i] := List.getElem?_eq_getElem hlt
    have hlt2 : i < ys.length := by omega
    have hy : ys[i]? = some ys[i] := List.getElem?_eq_getElem hlt2
    refine .inr ⟨⟨xs, ys, _, _, qx, qy, hx, hy⟩, Pv (i + 1), fun H' p' => ⟨xs.length - (i + 1), by omega, rfl, hlt, p'⟩, fun v H' y => ?_⟩
    obtain ⟨T, x', y', rfl, hT, rfl, f1, f2⟩ := y
    exact hs i x' y' T H (f1 xs qx) (f2 ys qy) p hT
  · have e : i = xs.length := by omega
    subst e
    exact .inl ⟨⟨xs, ys, qx, qy, Or.inl (Nat.le_refl _)⟩, hd H p⟩
end
/-! ### two values that are the same, to the depth n: ints, bools, lists and tuples of such -/
inductive Two (K : PySem.W.Frag) (H : Hp) : Nat → V → V → Prop where
  | bl (n : Nat) (b : Bool) : Two K H n (.bl b) (.bl b)
  | int (n : Nat) (i : Int) : Two K H n (.int i) (.int i)
  | lst {n : Nat} {a b : Addr} {xs ys : List V} (ha : H a = some (.lst xs)) (hb : H b = some (.lst ys)) (hl : xs.length = ys.length) (hsz : xs.length ≤ sizeLine) (hi : ∀ (i : Nat) (x y : V), xs[i]? = some x → ys[i]? = some y → Two K H n x y) : Two K H (n + 1) (.ref a) (.ref b)
  | tup {n : Nat} {a b : Addr} {xs ys : List V} (ha : SqT K H a xs) (hb : SqT K H b ys) (hl : xs.length = ys.length) (hsz : xs.length ≤ sizeLine) (hi : ∀ (i : Nat) (x y : V), xs[i]? = some x → ys[i]? = some y → Two K H n x y) : Two K H (n + 1) (.ref a) (.ref b)
theorem Two.same {K : PySem.W.Frag} {H H' : Hp} {n : Nat} {x y : V} (t : Two K H n x y) (s : Same H H') : Two K H' n x y := by
  induction t with
  | bl n b => exact .bl n b
  | int n i => exact .int n i
  | lst ha hb hl hz _ ih => exact .lst (s _ _ ha) (s _ _ hb) hl hz ih
  | tup ha hb hl hz _ ih => exact .tup (SqT.up ha s) (SqT.up hb s) hl hz ih
theorem tyT {K : PySem.W.Frag} {H : Hp} {a : Addr} {xs : List V} (h : SqT K H a xs) : TyX K H (.ref a) (.type "tuple") := by
  rcases h with (h | ⟨ob, h⟩) | ⟨o, its, n, h1, h2, _⟩
  · exact .base (.tup h)
  · exact .fTuple h
  · exact .kTuple h1 h2
section
variable {P : Program} {w : World} {K : PySem.W.Frag} {mg : Str → Option Value} {base : Heap} {C : Addr}
theorem kit2 {t : String} {b1 b2 r : Bool} (h1 : kitB t "list" = some b1) (h2 : kitB t "tuple" = some b2) (hr : (b1 || b2) = r) : PySem.W.kitAny K (.type t) [.type "list", .type "tuple"] = some r := by
  subst hr
  refine kitAny_cons (b := b1) (kit_ty h1) (fun e => ?_) (fun e => by rw [e]; rfl)
  subst e
  refine kitAny_cons (b := b2) (kit_ty h2) (fun e => ?_) (fun e => by rw [e]; rfl)
  subst e
  exact kitAny_nil
end
end PA

set_option maxHeartbeats 4000000
namespace PA
open PySem L2 RZ
open C8 (pss_cut tCut)
theorem atI_nat {α : Type} {xs : List α} {i : Nat} {x : α} (h : xs[i]? = some x) : atI xs (i : Int) = some x := by
  unfold atI
  rw [Evl.ixN_nat (List.getElem?_eq_some_iff.mp h).1]
  exact h
theorem StreamAt.ne {H : Hp} {a l p : Addr} {n : Nat} (S : StreamAt H a l n) (h : H p = none) : p ≠ a ∧ p ≠ l := by
  obtain ⟨ne, ns, x, z, h1, h2, _⟩ := S
  exact ⟨(ne_of_none h1 h).symm, (ne_of_none h2 h).symm⟩
theorem sm48 {z : Int} (h1 : 1 ≤ z) (h2 : z ≤ 48) : Sm 9000 z := by
  refine sm9000 (n := 6) ?_ (by decide)
  have e : (2 : Nat) ^ 6 = 64 := by decide
  show z.natAbs < 2 ^ 6
  rw [e]
  omega
theorem isT.kp {H H' : Hp} {a l c : Addr} {n : Nat} {r : Rw} (q : isT H c r) (S : StreamAt H a l n) (k : Keep a l H H') : isT H' c r := by
  obtain ⟨ne, ns, x, z, h1, h2, _⟩ := S
  exact k _ _ (ne_of (H := H) q h1 (by intro z; cases z)) (ne_of (H := H) q h2 (by intro z; cases z)) q
theorem StreamAt.at_ {H : Hp} {a l : Addr} {n m : Nat} (S : StreamAt H a l n) (e : n = m) : StreamAt H a l m := e ▸ S
theorem StreamAt.lst {H : Hp} {a l p : Addr} {n : Nat} {xs ys : List V} (S : StreamAt H a l n) (hp : H p = some (.lst xs)) (pa : p ≠ a) (pl : p ≠ l) : StreamAt (upd H p (.lst ys)) a l n := by
  obtain ⟨ne, ns, x, z, h1, h2, h3⟩ := S
  exact ⟨ne, ns, x, z, by rw [upd_ne pa.symm]; exact h1, by rw [upd_ne pl.symm]; exact h2, h3⟩
abbrev sTable : Stmt := top 57
def spTable : Sp := fun vs H Q _ => ∃ (a l : Addr) (n : Nat) (most marks : Int), vs = [.ref a, .int most, .int marks] ∧ StreamAt H a l n ∧ n ≤ 1000 ∧ 1 ≤ most ∧ most ≤ 48 ∧ 1 ≤ marks ∧ marks ≤ 4 ∧
  ∀ (t R S : Addr) (refs : List V) (rows : List Rw) (starts : List Int) (k : Int) (n' : Nat) (H' : Hp), H' t = some (.tup [.ref R, .ref S, .int k]) → H' R = some (.lst refs) → Each H' isT refs rows → H' S = some (.lst (starts.map V.int)) → Good rows starts k → (rows.length : Int) ≤ most → k ≤ marks →
    StreamAt H' a l n' → n' ≤ n + 300 → Keep a l H H' → R ≠ a → R ≠ l → S ≠ a → S ≠ l → H R = none → H S = none → Q (.ref t) H'
section
variable {P : Program} {w : World} {K : PySem.W.Frag} {mg : Str → Option Value} {base : Heap} {C : Addr}
theorem scTable : FnScope ["_law_stream", "_law_most", "_law_marks", "_law_size", "_law_many", "_law_rows", "_law_k", "_law_low", "_law_high"] ["_law_stream", "_law_most", "_law_marks"] (defScope sTable) := ⟨rfl, rfl, rfl, by decide +kernel, rfl, by decide +kernel, by decide +kernel⟩
theorem ok_table {f g : Addr} {fd gd : FuncData} (F : Fun K "_law_m_table" "_law_m_table" sTable f fd) (T : Txt K mg C) (D : Df K mg "_law_draw" sDraw g gd ["_law_stream", "_law_many"]) : FnOk P w K mg base CX0 2 f fd ["_law_stream", "_law_most", "_law_marks"] spTable := by
  have G : FnOk P w K mg base CX0 1 g gd ["_law_stream", "_law_many"] spDraw := ok_draw D.F T
  refine F.ok scTable (fun vs H Q E h => ?_) (fun cdv A outer s H vs Q E hr h => ?_)
  · obtain ⟨a, l, n, _, _, rfl, _⟩ := h
    rfl
  · obtain ⟨a, l, n, most, marks, rfl, S0, hn, m1, m48, k1, k4, kk⟩ := h
    refine ⟨_, pss_cut (ps_asg (pe_tup (pa_cons (pe_op op_add pe_int (pe_call G hr rfl D.M D.F.kp D.B .nil pass0 (pa_cons (pv 0) (pa_cons (pv 1) pa_nil)))) (pa_cons (pe_op op_add pe_int (pe_call G hr rfl D.M D.F.kp D.B .nil pass0 (pa_cons (pv 0) (pa_cons (pv 2) pa_nil)))) pa_nil)))
        (pg_tup rfl (pgs_cons (pg_name (i := 3) scTable.nd rfl (Or.inr rfl)) (pgs_cons (pg_name (i := 4) scTable.nd rfl (Or.inl rfl)) pgs_nil))))
      (pss_cons (ps_set (i := 5) scTable.nd rfl (Or.inl rfl) (pe_lst pa_nil))
      (pss_cut (ps_for PassesOwn.never rfl (pi_range1 (by rfl) T.range_ (pa_cons (pv 3) pa_nil)) (pg_name (i := 6) scTable.nd rfl (Or.inl rfl))
        (pss_cons (ps_par (i := 7) (j := 8) (by rfl) scTable.nd rfl rfl (by decide) rfl rfl (pa_cons (pe_call G hr rfl D.M D.F.kp D.B .nil pass0 (pa_cons (pv 0) (pa_cons (pv 3) pa_nil))) (pa_cons (pe_call G hr rfl D.M D.F.kp D.B .nil pass0 (pa_cons (pv 0) (pa_cons (pv 3) pa_nil))) pa_nil)) (by rfl))
        (pss_one (ps_expr (pe_bm PySem.F.plainAttrs_list PySem.F.slot_list_append PySem.F.type_list_append mt_append (pv 5) (pa_cons (pe_tup (pa_cons (pv 7) (pa_cons (pe_cmpR op_eq (pe_call G hr rfl D.M D.F.kp D.B .nil pass0 (pa_cons (pv 0) (pa_cons pe_int pa_nil))) pe_int (nomark _)) (pa_cons (pv 8) (pa_cons (pe_cmpR op_eq (pe_call G hr rfl D.M D.F.kp D.B .nil pass0 (pa_cons (pv 0) (pa_cons pe_int pa_nil))) pe_int (nomark _)) pa_nil))))) pa_nil))))))
      (pss_one (ps_ret (pe_tup (pa_cons (pv 5) (pa_cons (pe_lc (own := [("_law_k", 6)]) (g := gName 6) (tt := tYes) (by rfl) scTable.nd (pi_range1 (by rfl) T.range_ (pa_cons (pe_op op_mul (pv 4) (pv 4)) pa_nil)) (blkOk_by (N := ["_law_stream", "_law_most", "_law_marks", "_law_size", "_law_many", "_law_rows", "_law_k", "_law_low", "_law_high"]) (sc := defScope sTable) (by decide +kernel))
          (fun _ _ _ _ _ => pg_name (i := 6) scTable.nd rfl (Or.inl rfl)) (fun _ _ _ _ _ => pts_nil)
          (fun _ _ _ _ _ => pe_call G hr rfl D.M D.F.kp D.B .nil pass0 (pa_cons (pv 0) (pa_cons (pv 3) pa_nil)))) (pa_cons (pv 4) pa_nil)))))))), ?_⟩
    have e24 := @sm48
    refine ⟨fun σ' H' => ∃ (sz mn : Nat), 1 ≤ sz ∧ sz ≤ 48 ∧ (sz : Int) ≤ most ∧ 1 ≤ mn ∧ mn ≤ 4 ∧ (mn : Int) ≤ marks ∧ σ' = [some (V.ref a), some (V.int most), some (V.int marks), some (V.int (sz : Int)), some (V.int (mn : Int)), none, none, none, none] ∧ StreamAt H' a l (n + 2) ∧ Keep a l H H', ?_, ?_⟩
    · refine ⟨_, rfl, _, rfl, a, l, n, most, rfl, S0, by omega, by omega, e24 m1 m48, fun r1 H1 r10 r11 S1 kp1 => ⟨_, _, rfl, rfl, ?_⟩⟩
      refine ⟨_, rfl, _, rfl, a, l, n + 1, marks, rfl, S1, by omega, by omega, e24 k1 (by omega), fun r2 H2 r20 r21 S2 kp2 => ⟨_, _, rfl, rfl, by show 2 ≤ sizeLine; decide, fun tp htp => ?_⟩⟩
      refine ⟨tp, _, rfl, SqT.of upd_same, rfl, _, _, rfl, _, _, rfl, rfl, ?_⟩
      refine ⟨(1 + r1).toNat, (1 + r2).toNat, by omega, by omega, by omega, by omega, by omega, by omega, ?_, S2.same (Same.new htp), (kp1.trans kp2).trans (Keep.of (Same.new htp))⟩
      rw [Int.toNat_of_nonneg (by omega), Int.toNat_of_nonneg (by omega)]
      rfl
    rintro _ H2 ⟨sz, mn, sz1, sz48, szm, mn1, mn4, mnm, rfl, S2, kp2⟩
    refine ⟨Nat.zero_le _, fun R hR0 => ?_⟩
    obtain ⟨Ra, Rl⟩ := S2.ne hR0
    have HR : H R = none := by
      cases e : H R with
      | none => rfl
      | some o => have := kp2 R o Ra Rl e; rw [hR0] at this; cases this
    refine ⟨fun σ' H' => ∃ x6 x7 x8 refs rows, σ' = [some (V.ref a), some (V.int most), some (V.int marks), some (V.int (sz : Int)), some (V.int (mn : Int)), some (V.ref R), x6, x7, x8] ∧ StreamAt H' a l (n + 2 + 4 * sz) ∧ Keep a l H H' ∧ H' R = some (.lst refs) ∧ Each H' isT refs rows ∧ rows.length = sz ∧ (∀ r ∈ rows, RwOk sz r), ?_, ?_⟩
    · refine ⟨_, rfl, (sz : Int), rfl, by omega, by omega, ?_⟩
      refine for_range (n := sz) (fun i σ' H' => ∃ x6 x7 x8 refs rows, σ' = [some (V.ref a), some (V.int most), some (V.int marks), some (V.int (sz : Int)), some (V.int (mn : Int)), some (V.ref R), x6, x7, x8] ∧ StreamAt H' a l (n + 2 + 4 * i) ∧ Keep a l H H' ∧ H' R = some (.lst refs) ∧ Each H' isT refs rows ∧ rows.length = i ∧ (∀ r ∈ rows, RwOk sz r)) ?_ ?_ ?_
      · refine ⟨none, none, none, [], [], rfl, S2.same (Same.new hR0), kp2.trans (Keep.of (Same.new hR0)), upd_same, Each.nil, rfl, fun r hr => by cases hr⟩
      · rintro i _ H3 hi ⟨x6, x7, x8, refs, rows, rfl, S3, kp3, hR, hE, hlen, hok⟩
        refine ⟨_, rfl, _, rfl, a, l, _, _, rfl, S3, by omega, by omega, e24 (by omega) (by omega), fun r1 H4 r10 r11 S4 kp4 => ?_⟩
        refine ⟨_, rfl, _, rfl, a, l, _, _, rfl, S4, by omega, by omega, e24 (by omega) (by omega), fun r2 H5 r20 r21 S5 kp5 => ⟨_, _, rfl, ?_⟩⟩
        have hR5 : H5 R = some (.lst refs) := kp5 _ _ Ra Rl (kp4 _ _ Ra Rl hR)
        refine ⟨_, rfl, .inl ⟨rfl, _, SqL.of hR5⟩, ?_⟩
        refine ⟨_, rfl, ?_⟩
        refine ⟨_, rfl, a, l, _, _, rfl, S5, by omega, by decide, e24 (by decide) (by decide), fun r3 H6 r30 r31 S6 kp6 => ⟨rfl, ?_⟩⟩
        refine ⟨_, rfl, ?_⟩
        refine ⟨_, rfl, a, l, _, _, rfl, S6, by omega, by decide, e24 (by decide) (by decide), fun r4 H7 r40 r41 S7 kp7 => ⟨rfl, by show 4 ≤ sizeLine; decide, fun tp htp => ?_⟩⟩
        have hR7 : H7 R = some (.lst refs) := kp7 _ _ Ra Rl (kp6 _ _ Ra Rl hR5)
        have kp37 : Keep a l H3 H7 := ((kp4.trans kp5).trans kp6).trans kp7
        have hE7 : Each H7 isT refs rows := hE.imp fun c r q => q.kp S3 kp37
        have hR8 := Same.new (o := .tup [.int r1, .bl (decide (V.int r3 = V.int 0)), .int r2, .bl (decide (V.int r4 = V.int 0))]) htp _ _ hR7
        have hE8 : Each _ isT refs rows := hE7.sameT (Same.new (o := .tup [.int r1, .bl (decide (V.int r3 = V.int 0)), .int r2, .bl (decide (V.int r4 = V.int 0))]) htp)
        refine ⟨R, refs, _, rfl, rfl, hR8, ?_, ?_⟩
        · rw [hE.1, hlen]
          exact Nat.lt_of_lt_of_le hi (Nat.le_trans sz48 (by decide))
        refine ⟨_, _, _, _, rows ++ [(r1, decide (V.int r3 = V.int 0), r2, decide (V.int r4 = V.int 0))], rfl, ?_, ?_, upd_same, ?_, ?_, ?_⟩
        · refine StreamAt.at_ (n := n + 2 + 4 * i + 4) ?_ (by omega)
          exact (S7.same (Same.new htp)).lst hR8 Ra Rl
        · intro c o ca cl e
          rw [upd_ne (ne_of_none e HR)]
          exact Same.new htp _ _ ((kp3.trans kp37) c o ca cl e)
        · exact (hE8.imp fun c r q => q.lst hR8).push ((show isT _ tp (r1, decide (V.int r3 = V.int 0), r2, decide (V.int r4 = V.int 0)) from upd_same).lst hR8)
        · rw [List.length_append, hlen]
          rfl
        · intro r hr
          rcases List.mem_append.mp hr with hr | hr
          · exact hok r hr
          · cases List.mem_singleton.mp hr
            exact ⟨⟨r10, r11⟩, r20, r21⟩
      · rintro σ' H' ⟨x6, x7, x8, refs, rows, rfl, S3, kp3, hR, hE, hlen, hok⟩
        exact ⟨x6, x7, x8, refs, rows, rfl, S3, kp3, hR, hE, hlen, hok⟩
    rintro _ H3 ⟨x6, x7, x8, refs, rows, rfl, S3, kp3, hR, hE, hlen, hok⟩
    have hm : ((mn : Int) * (mn : Int)).toNat = mn * mn := by
      rw [← Int.natCast_mul, Int.toNat_natCast]
    have hmm : mn * mn ≤ 16 := Nat.mul_le_mul mn4 mn4
    have hmi : (mn : Int) * (mn : Int) = ((mn * mn : Nat) : Int) := (Int.natCast_mul mn mn).symm
    refine ⟨_, rfl, ?_⟩
    refine ⟨_, rfl, _, rfl, _, _, rfl, rfl, .inl ⟨by omega, by omega⟩, _, rfl, by omega, by omega, fun Dd hD => ?_⟩
    obtain ⟨Da, Dl⟩ := S3.ne hD
    refine lc_range (n := ((mn : Int) * (mn : Int)).toNat) (fun i H' => StreamAt H' a l (n + 2 + 4 * sz + i) ∧ Keep a l H3 H' ∧ ∃ zs : List Int, H' Dd = some (.lst (zs.map V.int)) ∧ zs.length = i ∧ ∀ z ∈ zs, 0 ≤ z ∧ z < (sz : Int)) ?_ ?_ ?_
    · exact ⟨S3.same (Same.new hD), Keep.of (Same.new hD), [], upd_same, rfl, fun z hz => by cases hz⟩
    · rintro i H4 hi ⟨S4, kp4, zs, hd, hl, hz⟩
      rw [hm] at hi
      refine ⟨rfl, ?_⟩
      dsimp only [tYes]
      rw [if_pos rfl]
      refine ⟨_, rfl, _, rfl, a, l, _, _, rfl, S4, by omega, by omega, e24 (by omega) (by omega), fun r H5 r0 r1 S5 kp5 => ?_⟩
      have hd5 := kp5 _ _ Da Dl hd
      refine ⟨_, hd5, ?_, ?_, ?_, zs ++ [r], ?_, ?_, ?_⟩
      · rw [List.length_map, hl]
        exact Nat.lt_of_lt_of_le (Nat.lt_of_lt_of_le hi hmm) (by decide)
      · exact S5.lst hd5 Da Dl
      · intro c o ca cl e
        rw [upd_ne (ne_of_none e hD)]
        exact kp5 _ _ ca cl (kp4 _ _ ca cl e)
      · rw [upd_same, List.map_append]
        rfl
      · rw [List.length_append, hl]
        rfl
      · intro z hz'
        rcases List.mem_append.mp hz' with hz' | hz'
        · exact hz z hz'
        · cases List.mem_singleton.mp hz'
          exact ⟨r0, r1⟩
    · rintro H4 ⟨S4, kp4, zs, hd, hl, hz⟩
      rw [hm] at hl S4
      refine ⟨_, rfl, by show 3 ≤ sizeLine; decide, fun tp htp => ?_⟩
      have hR4 := kp4 _ _ Ra Rl hR
      have hD0 : H Dd = none := by
        cases e : H Dd with
        | none => rfl
        | some o => have := kp3 Dd o Da Dl e; rw [hD] at this; cases this
      refine kk tp R Dd refs rows zs mn _ _ upd_same (Same.new htp _ _ hR4) ?_ (Same.new htp _ _ hd) ⟨by omega, by omega, ?_, ?_, ?_⟩ (by rw [hlen]; exact szm) mnm (S4.same (Same.new htp)) (by omega) ((kp3.trans kp4).trans (Keep.of (Same.new htp))) Ra Rl Da Dl HR hD0
      · exact (hE.imp fun c r q => q.kp S3 kp4).sameT (Same.new htp)
      · intro r hr
        rw [hlen]
        exact hok r hr
      · rw [hl]
        rcases (by omega : mn = 1 ∨ mn = 2 ∨ mn = 3 ∨ mn = 4) with rfl | rfl | rfl | rfl
        · exact .r1
        · exact .r2
        · exact .r3
        · exact .r4
      · intro z hz'
        rw [hlen]
        exact hz z hz'
end
end PA

set_option maxHeartbeats 2000000
/-! dicts whose keys are tuples of ints, bools, texts and None -/
namespace L2
open PySem PySem.Spec PyProof.Rows
/-- the value v counts as the leaf k -/
def lfIs : Leaf → V → Prop
  | .none, v => v = .non
  | .num i, v => v = .int i ∨ ∃ b : Bool, v = .bl b ∧ i = if b = true then 1 else 0
  | .text x, v => v = .str x
theorem lf_is {k : Leaf} {v : V} {u : Value} (h : lfIs k v) (r : RelV v u) : Leaf.isOf k u = true := by
  cases k with
  | none =>
    cases (show v = .non from h)
    cases (show u = Value.none from r)
    rfl
  | num i =>
    rcases (show v = .int i ∨ ∃ b : Bool, v = .bl b ∧ i = if b = true then 1 else 0 from h) with rfl | ⟨b, rfl, e⟩
    · obtain ⟨t, rfl⟩ := r
      exact decide_eq_true rfl
    · cases (show u = Value.bool b from r)
      exact decide_eq_true e.symm
  | text x =>
    cases (show v = .str x from h)
    obtain ⟨t, rfl⟩ := r
    show Value.isStrOf x (.str x t) = true
    simp [Value.isStrOf]
abbrev LKey := List Leaf
/-- a tuple that is the key k stands at b -/
def KeyAt (H : Hp) (b : Addr) (k : LKey) : Prop := ∃ xs, H b = some (.tup xs) ∧ Paired lfIs k xs
theorem lfs_are {P : Program} {w : World} : ∀ {ks : LKey} {xs : List V} {us : List Value}, Paired lfIs ks xs → Vals xs us → ItemsAre (leafKind P w) ks us
  | [], _, _, .nil, .nil => .nil
  | _ :: _, _, _, .cons h t, .cons r rs => .cons (lf_is h r) (lfs_are t rs)
abbrev dxK (P : Program) (w : World) : HeapKind P w LKey := tupleKind (leafKind P w)
section
variable {P : Program} {w : World} {H H' : Hp} {h : Heap} {a b d : Addr}
theorem KeyAt.is {k : LKey} (x : KeyAt H b k) (ok : HOk P w H h) : (dxK P w).is h k b := by
  obtain ⟨xs, e, r⟩ := x
  obtain ⟨_, its, rv, o, h1, h2, n, h3⟩ := (show ObjOk P w H h b (.tup xs) from ok b _ e)
  exact ⟨o, its.toArray, n, h1, h2, h3, by simpa using lfs_are r rv⟩
theorem KeyAt.kt {k : LKey} (x : KeyAt H b k) (kt : ∀ c ys, H c = some (.tup ys) → H' c = some (.tup ys)) : KeyAt H' b k := let ⟨xs, e, r⟩ := x; ⟨xs, kt _ _ e, r⟩
abbrev DE := LKey × Addr × V
abbrev DW := LKey × Addr × Value
abbrev DRel : List DE → List DW → Prop := Paired fun (p : DE) (q : DW) => p.1 = q.1 ∧ p.2.1 = q.2.1 ∧ RelV p.2.2 q.2.2
def dxR (P : Program) (w : World) (a : Addr) (kvs : List DE) (h : Heap) : Prop := kvs.length ≤ sizeLine ∧ (a == sysModules) = false ∧
  ∃ xs : List DW, DRel kvs xs ∧ ∃ o es ep, h.get? a = some o ∧ o.ExactDict ∧ o.data = .dict es ep ∧ es.toList = xs.map (entryOfKey (dxK P w)) ∧ (xs.map (·.1)).Nodup
/-- the dict at a with these entries: key, the tuple that is the key, value -/
def DX (P : Program) (w : World) (a : Addr) (kvs : List DE) : HO := .ext (dxR P w a kvs)
theorem dx_ok {kvs : List DE} (R : dxR P w a kvs h) : ObjOk P w H h a (DX P w a kvs) := by
  obtain ⟨z, y, xs, r, o, es, ep, h1, h2⟩ := id R
  refine ⟨R, ⟨o, h1⟩, fun g1 g2 p k => ?_⟩
  obtain ⟨z, y, xs, r, o, es, ep, h1, h2⟩ := p
  exact ⟨z, y, xs, r, o, es, ep, k _ h1, h2⟩
/-- the dict at d: keys and values -/
def DxAt (P : Program) (w : World) (H : Hp) (d : Addr) (ps : List (LKey × V)) : Prop := ∃ kvs : List DE, H d = some (DX P w d kvs) ∧ kvs.map (fun p => (p.1, p.2.2)) = ps ∧ ∀ p ∈ kvs, KeyAt H p.2.1 p.1
theorem DxAt.kt {ps : List (LKey × V)} (x : DxAt P w H d ps) (hd : ∀ o, H d = some o → H' d = some o) (kt : ∀ c ys, H c = some (.tup ys) → H' c = some (.tup ys)) : DxAt P w H' d ps :=
  let ⟨kvs, e, m, k⟩ := x; ⟨kvs, hd _ e, m, fun p hp => (k p hp).kt kt⟩
theorem DxAt.same {ps : List (LKey × V)} (x : DxAt P w H d ps) (s : ∀ b o, H b = some o → H' b = some o) : DxAt P w H' d ps := x.kt (fun _ e => s _ _ e) fun _ _ e => s _ _ e
theorem dx_val {kvs : List DE} {xs : List DW} (r : DRel kvs xs) (k : LKey) : RelO (valV (kvs.map fun p => (p.1, p.2.2)) k) ((atKey xs k).map (·.2)) := by
  induction r with
  | nil => exact True.intro
  | @cons p q ps qs h t ih =>
    obtain ⟨h1, h2, h3⟩ := h
    rw [List.map_cons]
    by_cases e : p.1 = k
    · have b : atKey (q :: qs) k = some q.2 := by simp [atKey, List.find?_cons, h1.symm.trans e]
      rw [valV_pos e, b]
      exact h3
    · have b : atKey (q :: qs) k = atKey qs k := by
        have e' : ¬ q.1 = k := fun z => e (h1.trans z)
        simp [atKey, List.find?_cons, e']
      rw [valV_neg e, b]
      exact ih
theorem dx_of {kvs : List DE} (ok : HOk P w H h) (e : H d = some (DX P w d kvs)) (ka : ∀ p ∈ kvs, KeyAt H p.2.1 p.1) : kvs.length ≤ sizeLine ∧ (d == sysModules) = false ∧ ∃ xs, DRel kvs xs ∧ h.DictOfH (dxK P w) d xs := by
  obtain ⟨z, y, xs, r, o, es, ep, h1, h2, h3, h4, h5⟩ := (ok d _ e).1
  refine ⟨z, y, xs, r, o, es, ep, h1, h2, h3, h4, fun x hx => ?_, h5⟩
  have all : ∀ {l : List DE} {m : List DW}, DRel l m → (∀ p ∈ l, KeyAt H p.2.1 p.1) → ∀ x ∈ m, (dxK P w).is h x.1 x.2.1 := by
    intro l m q
    induction q with
    | nil => intro _ x hx; cases hx
    | @cons p q ps qs hq t ih =>
      intro g x hx
      rcases List.mem_cons.mp hx with rfl | hx
      · have := (g p List.mem_cons_self).is ok
        rw [hq.1, hq.2.1] at this
        exact this
      · exact ih (fun p hp => g p (List.mem_cons_of_mem _ hp)) x hx
  exact all r ka x hx
end
section
variable {X : Cx}
theorem op_in_dx (hu : X.A.units + 1 < cLine) : OpR X (compareOp .In) (fun x y H Q => ∃ d b ps k, x = .ref b ∧ y = .ref d ∧ DxAt X.prog X.w H d ps ∧ KeyAt H b k ∧ Q (.bl (valV ps k).isSome) H) := by
  intro pins s σ H x y v u Q I rx ry h
  obtain ⟨d, b, ps, k, rfl, rfl, ⟨kvs, e, rfl, ka⟩, hk, q⟩ := h
  cases rx
  cases ry
  obtain ⟨z, hd, xs, r, dd⟩ := dx_of I.hok e ka
  refine wpAny_in_heap (tupleKind_room_in1 hu) (hk.is I.hok) hd dd ?_
  have e2 := (dx_val r k).isSome_eq
  rw [Option.isSome_map] at e2
  rw [← e2]
  exact ⟨.bl _, H, I.tok _, rfl, q⟩
theorem op_notIn_dx (hu : X.A.units + 1 < cLine) : OpR X (compareOp .NotIn) (fun x y H Q => ∃ d b ps k, x = .ref b ∧ y = .ref d ∧ DxAt X.prog X.w H d ps ∧ KeyAt H b k ∧ Q (.bl (!(valV ps k).isSome)) H) := by
  intro pins s σ H x y v u Q I rx ry h
  obtain ⟨d, b, ps, k, rfl, rfl, ⟨kvs, e, rfl, ka⟩, hk, q⟩ := h
  cases rx
  cases ry
  obtain ⟨z, hd, xs, r, dd⟩ := dx_of I.hok e ka
  refine wpAny_notIn_heap (tupleKind_room_in1 hu) (hk.is I.hok) hd dd ?_
  have e2 := (dx_val r k).isSome_eq
  rw [Option.isSome_map] at e2
  rw [← e2]
  exact ⟨.bl _, H, I.tok _, rfl, q⟩
theorem ix_dx (hu : X.A.units + 1 < cLine) : IxR X (fun x y H Q => ∃ d b ps k v, x = .ref d ∧ y = .ref b ∧ DxAt X.prog X.w H d ps ∧ KeyAt H b k ∧ valV ps k = some v ∧ Q v H) := by
  intro value slice pins s σ H x y v u Q I rx ry h hs
  obtain ⟨d, b, ps, k, r, rfl, rfl, ⟨kvs, e, rfl, ka⟩, hk, hv, q⟩ := h
  cases rx
  cases ry
  obtain ⟨z, hd, xs, rel, dd⟩ := dx_of I.hok e ka
  obtain ⟨w', hw, rw'⟩ := RelO.some_of (v := r) (o := (atKey xs k).map (·.2)) (by rw [← hv]; exact dx_val rel k)
  obtain ⟨p, hp, hp2⟩ := Option.map_eq_some_iff.mp hw
  refine tail_any dd.typeIs slot_dict_getitem.lookup (wpAny_getItem_heap (tupleKind_room_in1 hu) (hk.is I.hok) dd hp ?_) hs
  rw [hp2]
  exact ⟨r, H, I.tok _, rw', q⟩
/-- d[b] = v, the key is new -/
theorem set_dx (hu : X.A.units + 1 < cLine) : PSet X (fun o i v H Q => ∃ d b kvs k, o = .ref d ∧ i = .ref b ∧ H d = some (DX X.prog X.w d kvs) ∧ (∀ p ∈ kvs, KeyAt H p.2.1 p.1) ∧ KeyAt H b k ∧ valV (kvs.map fun p => (p.1, p.2.2)) k = none ∧ kvs.length < sizeLine ∧
    Q (upd H d (DX X.prog X.w d (kvs ++ [(k, b, v)])))) := by
  intro pins s σ H o i v ov iv u Q I ro ri rv h
  obtain ⟨d, b, kvs, k, rfl, rfl, e, ka, hk, hv, hl, q⟩ := h
  cases ro
  cases ri
  obtain ⟨z, hd, xs, rel, dd⟩ := dx_of I.hok e ka
  have hlen := Paired.length rel
  have hn : atKey xs k = none := by
    have e2 := (dx_val rel k).isSome_eq
    rw [Option.isSome_map, hv] at e2
    cases hx : atKey xs k with
    | none => rfl
    | some p => rw [hx] at e2; cases e2
  refine wpAny_setItem_heap (hsz := by rw [← hlen]; exact z) (tupleKind_room_in1 hu) (hk.is I.hok) dd fun h' dd' hs => ?_
  have es : storedH xs k b u = xs ++ [(k, b, u)] := by
    unfold storedH
    rw [hn]
    rfl
  rw [es] at dd'
  obtain ⟨ob, en, ep, hq, h2, h3, h4, _, h5⟩ := dd'
  refine ⟨_, I.write (x := d) (e := d) (by rw [e]; exact True.intro) (.inl rfl) (fun c y hb z => (hs.2 c hb).trans z) ⟨ob, hq⟩ (dx_ok ⟨?_, hd, _, Paired.snoc rel ⟨rfl, rfl, rv⟩, ob, en, ep, hq, h2, h3, h4, h5⟩), q⟩
  rw [List.length_append]
  exact hl
theorem pe_dnewX {pos : Pos} : PE X (.Dict [] [] pos) (fun _ H Q => ∀ p, H p = none → Q (.ref p) (upd H p (DX X.prog X.w p []))) := ⟨fun pins s σ H Q I h =>
  wpAny_Dict_empty ⟨.ref s.heap.objs.size, _, I.laid (a := s.heap.objs.size) (o := DX X.prog X.w s.heap.objs.size []) (t' := s.toks) (fun _ _ q => Heap.get?_push_of_some _ q) (Nat.le_refl _)
    (dx_ok ⟨Nat.zero_le _, beq_eq_false_iff_ne.mpr (Ne.symm (Nat.ne_of_lt I.big)), [], .nil, _, #[], 0, Heap.get?_push_size _ rfl, ⟨rfl, rfl, rfl⟩, rfl, rfl, List.nodup_nil⟩), rfl, h _ (I.hok.fresh (Nat.le_refl _))⟩⟩
end
end L2

set_option maxHeartbeats 4000000
/-! zip and enumerate over lists and tuples in any mix -/
namespace L2
open PySem PySem.Spec PyProof.Rows RZ
def IterK (k : Kind) (h : Heap) (it a : Addr) (i : Nat) : Prop := match k with
  | .l => h.IsListIter it a i
  | .t => h.IsTupleIter it a i
def SeqK (k : Kind) (h : Heap) (a : Addr) (its : Array Value) : Prop := match k with
  | .l => h.IsList a its
  | .t => h.IsTuple a its
def begO (k : Kind) (a : Addr) : Obj := match k with
  | .l => { cls := .type "list_iterator", data := .fields #[.ref a, .int 0 0] }
  | .t => { cls := .type "tuple_iterator", data := .fields #[.ref a, .int 0 0] }
theorem begins_k (k : Kind) (a : Addr) (its : Array Value) : Begins (.ref a) (begO k a) fun h => SeqK k h a its := by
  cases k
  · exact begins_list a its
  · exact begins_tuple a its
theorem iter_0 {k : Kind} {h : Heap} {it a : Addr} (e : h.get? it = some (begO k a)) : IterK k h it a 0 := by
  cases k
  · exact ⟨_, e, rfl, rfl⟩
  · exact ⟨_, e, rfl, rfl⟩
theorem iterK_at {k : Kind} {h h' : Heap} {it a : Addr} {i : Nat} (x : IterK k h it a i) (e : ∀ o, h.get? it = some o → h'.get? it = some o) : IterK k h' it a i := by
  cases k
  · exact x.at e
  · exact x.at e
theorem iterK_obj {k : Kind} {h : Heap} {it a : Addr} {i : Nat} (x : IterK k h it a i) : ∃ o, h.get? it = some o ∧ ∀ v, o.data ≠ .cell v := by
  cases k
  · obtain ⟨o, e, _, d⟩ := x
    exact ⟨o, e, fun v z => by rw [d] at z; cases z⟩
  · obtain ⟨o, e, _, d⟩ := x
    exact ⟨o, e, fun v z => by rw [d] at z; cases z⟩
theorem seqK_lt {k : Kind} {h : Heap} {a : Addr} {its : Array Value} (x : SeqK k h a its) : a < h.objs.size := by
  cases k
  · obtain ⟨o, e, _⟩ := x; exact Heap.lt_size e
  · obtain ⟨o, e, _⟩ := x; exact Heap.lt_size e
theorem draws_k {P : Program} {w : World} {A : Around} (k : Kind) (hh : A.handled = none) (it a : Addr) (hne : a ≠ it) (its : Array Value) :
    Draws P w A it [it, a] its.size (fun i v => its[i]? = some v) (fun i h => IterK k h it a i ∧ SeqK k h a its) := by
  cases k
  · exact Draws.list hh it a hne its
  · exact Draws.tuple hh it a hne its
theorem seq_k {X : Cx} {pins : List (Addr × Obj)} {σ : L2.St} {H : Hp} {s : Shared} {k : Kind} {a : Addr} {xs : List V} (I : Inv X pins σ H s) (h : Sk X.K k H a xs) : ∃ its : List Value, Vals xs its ∧ SeqK k s.heap a its.toArray := by
  cases k
  · obtain ⟨its, r, p, _⟩ := I.list h
    exact ⟨its, r, p.isList⟩
  · obtain ⟨its, r, p, _⟩ := I.tuple h
    exact ⟨its, r, p⟩
theorem sk_inj {X : Cx} {pins : List (Addr × Obj)} {σ : L2.St} {H : Hp} {s : Shared} {k : Kind} {a : Addr} {xs ys : List V} (I : Inv X pins σ H s) (h : Sk X.K k H a xs) (h' : Sk X.K k H a ys) : xs = ys := by
  cases k
  · exact I.list_inj h h'
  · exact I.tuple_inj h h'
/-! ### zip -/
def ItM (K : PySem.W.Frag) (k1 k2 : Kind) (a b : Addr) : It :=
  ⟨fun i H => ∃ (xs ys : List V), Sk K k1 H a xs ∧ Sk K k2 H b ys ∧ i < xs.length ∧ i < ys.length,
    fun i H v H' => ∃ T x y, v = .ref T ∧ H T = none ∧ H' = upd H T (.tup [x, y]) ∧ (∀ xs, Sk K k1 H a xs → xs[i]? = some x) ∧ ∀ ys, Sk K k2 H b ys → ys[i]? = some y,
    fun i H => ∃ (xs ys : List V), Sk K k1 H a xs ∧ Sk K k2 H b ys ∧ i ≤ xs.length ∧ i ≤ ys.length ∧ (i = xs.length ∨ i = ys.length)⟩
theorem walk_m {K : PySem.W.Frag} {k1 k2 : Kind} {a b : Addr} {xs ys : List V} {n : Nat} (hn : n = min xs.length ys.length) : Walk (ItM K k1 k2 a b) n (fun H => Sk K k1 H a xs ∧ Sk K k2 H b ys) (YPair (fun i => xs[i]?) (fun i => ys[i]?)) :=
  ⟨fun i H hi q => ⟨xs, ys, q.1, q.2, by omega, by omega⟩, fun H q => ⟨xs, ys, q.1, q.2, by omega, by omega, by omega⟩, fun i H v H' hi q y => by
    obtain ⟨T, x, z, rfl, hT, rfl, f1, f2⟩ := y
    exact ⟨T, x, z, rfl, hT, rfl, f1 xs q.1, f2 ys q.2⟩⟩
theorem turn_m {P : Program} {w : World} {K : PySem.W.Frag} {k1 k2 : Kind} {elts : List Expr} {kk : Nat} {tpos : Pos} {a b z TI TO i1 i2 : Addr} (S : ZipSep2 z TI TO i1 i2 [i1, a] [i2, b]) (na : a ≠ i1) (nb : b ≠ i2) :
    Turn P w K (.Tuple elts kk tpos) (ItM K k1 k2 a b) [z, TI, TO, i1, i2] z (fun i h => IsZip h z TI TO .none ∧ IsTupOf2 h TI (.ref i1) (.ref i2) ∧ (∃ x y, IsTupOf2 h TO x y) ∧ IterK k1 h i1 a i ∧ IterK k2 h i2 b i) where
  mem := List.mem_cons_self
  obj := fun i h st c hc => by
    obtain ⟨g1, g2, ⟨x, y, g3⟩, g4, g5⟩ := st
    simp only [List.mem_cons, List.not_mem_nil, or_false] at hc
    rcases hc with rfl | rfl | rfl | rfl | rfl
    · exact ⟨_, g1, fun v e => by cases e⟩
    · exact ⟨_, g2, fun v e => by cases e⟩
    · exact ⟨_, g3, fun v e => by cases e⟩
    · exact iterK_obj g4
    · exact iterK_obj g5
  keep := fun i h h' st kp => by
    obtain ⟨g1, g2, ⟨x, y, g3⟩, g4, g5⟩ := st
    exact ⟨kp z (by simp) _ g1, kp TI (by simp) _ g2, ⟨x, y, kp TO (by simp) _ g3⟩, iterK_at g4 fun o e => kp i1 (by simp) o e, iterK_at g5 fun o e => kp i2 (by simp) o e⟩
  item := by
    intro X eP ew eK calm i pins s σ H E I own st go
    subst eP ew eK
    obtain ⟨g1, g2, ⟨x0, y0, g3⟩, g4, g5⟩ := st
    obtain ⟨xs, ys, qx, qy, lx, ly⟩ := go
    obtain ⟨us, ru, pu⟩ := seq_k I qx
    obtain ⟨vs, rv, pv⟩ := seq_k I qy
    have hu := ru.length
    have hv := rv.length
    have zlt : z < s.heap.objs.size := Heap.lt_size g1
    have D1 := draws_k (P := X.prog) (w := X.w) (A := X.A.in1) k1 (I.ok.hd calm) i1 a na us.toArray
    have D2 := draws_k (P := X.prog) (w := X.w) (A := X.A.in1) k2 (I.ok.hd calm) i2 b nb vs.toArray
    refine wpAny_pyNext_zipD2_item S D1 D2 g1 g2 g3 ⟨g4, pu⟩ ⟨g5, pv⟩ (by simp; omega) (by simp; omega) fun x1 x2 h' tk px py z' t' s1 s2 nt hsz kp => ?_
    obtain ⟨v1, e1, r1⟩ : ∃ v1, xs[i]? = some v1 ∧ RelV v1 x1 := by
      have ex : xs[i]? = some xs[i] := List.getElem?_eq_getElem lx
      obtain ⟨u, hu', ru'⟩ := ru.get ex
      have : u = x1 := by
        have px' : us[i]? = some x1 := by simpa using px
        rw [hu'] at px'
        exact Option.some.inj px'
      exact ⟨_, ex, this ▸ ru'⟩
    obtain ⟨v2, e2, r2⟩ : ∃ v2, ys[i]? = some v2 ∧ RelV v2 x2 := by
      have ey : ys[i]? = some ys[i] := List.getElem?_eq_getElem ly
      obtain ⟨u, hu', ru'⟩ := rv.get ey
      have : u = x2 := by
        have py' : vs[i]? = some x2 := by simpa using py
        rw [hu'] at py'
        exact Option.some.inj py'
      exact ⟨_, ey, this ▸ ru'⟩
    refine ⟨_, rfl, wpAny_letOwnedTupleGo_zip (s := { s with heap := h', toks := tk }) z' fun g z'' sb => ?_⟩
    have nt2 : g.get? s.heap.objs.size = some { cls := .type "tuple", data := .seq #[x1, x2] } := (sb.2 _ (Nat.ne_of_gt zlt)).trans nt
    have ob : ObjOk X.prog X.w (upd H s.heap.objs.size (.tup [v1, v2])) g s.heap.objs.size (.tup [v1, v2]) :=
      ⟨by show 2 ≤ sizeLine; decide, [x1, x2], .cons r1 (.cons r2 .nil), _, nt2, rfl, _, rfl⟩
    have all : ∀ c o, ¬ c ∈ [z, TI, TO, i1, i2] → s.heap.get? c = some o → g.get? c = some o := fun c o hn e => by
      simp only [List.mem_cons, List.not_mem_nil, or_false, not_or] at hn
      exact (sb.2 c hn.1).trans (kp c o hn.1 hn.2.2.1 hn.2.2.2.1 hn.2.2.2.2 e)
    have J := I.turnedNew (t' := tk) (ch := [z, TI, TO, i1, i2]) all own (Nat.le_refl _) ob
    have sz1 := S.zf1
    have sz2 := S.zf2
    simp only [List.mem_cons, List.not_mem_nil, or_false, not_or] at sz1 sz2
    refine ⟨.ref s.heap.objs.size, _, J, rfl, ⟨_, v1, v2, rfl, I.hok.fresh (Nat.le_refl _), rfl, fun l hl => by rw [sk_inj I hl qx]; exact e1, fun l hl => by rw [sk_inj I hl qy]; exact e2⟩, ⟨z'', ?_, ⟨x1, x2, ?_⟩, ?_, ?_⟩, fun c hc => ?_⟩
    · have := (sb.2 TI S.TIz).trans (kp TI _ S.TIz S.TITO S.TIi1 S.TIi2 g2)
      exact this
    · exact (sb.2 TO S.TOz).trans t'
    · exact iterK_at s1.1 fun o e => (sb.2 i1 (fun q => sz1.1 q.symm)).trans e
    · exact iterK_at s2.1 fun o e => (sb.2 i2 (fun q => sz2.1 q.symm)).trans e
    · have clt : c < s.heap.objs.size := by
        simp only [List.mem_cons, List.not_mem_nil, or_false] at hc
        rcases hc with rfl | rfl | rfl | rfl | rfl
        · exact zlt
        · exact Heap.lt_size g2
        · exact Heap.lt_size g3
        · obtain ⟨_, e, _⟩ := iterK_obj g4; exact Heap.lt_size e
        · obtain ⟨_, e, _⟩ := iterK_obj g5; exact Heap.lt_size e
      rw [upd_ne (Nat.ne_of_lt clt)]
      exact (own c hc).1
  done := by
    intro X eP ew eK calm i pins s σ H E I own st go
    subst eP ew eK
    obtain ⟨g1, g2, ⟨x0, y0, g3⟩, g4, g5⟩ := st
    obtain ⟨xs, ys, qx, qy, lx, ly, le⟩ := go
    obtain ⟨us, ru, pu⟩ := seq_k I qx
    obtain ⟨vs, rv, pv⟩ := seq_k I qy
    have hu := ru.length
    have hv := rv.length
    have D1 := draws_k (P := X.prog) (w := X.w) (A := X.A.in1) k1 (I.ok.hd calm) i1 a na us.toArray
    have D2 := draws_k (P := X.prog) (w := X.w) (A := X.A.in1) k2 (I.ok.hd calm) i2 b nb vs.toArray
    refine wpAny_pyNext_zipD2_end S D1 D2 g1 g2 g3 ⟨g4, pu⟩ ⟨g5, pv⟩ (by simp; omega) (by simp; omega) (by simp; omega) fun h' tk kp => ⟨rfl, ?_⟩
    refine I.turnedL (t' := tk) (ch := [z, TI, TO, i1, i2]) (fun c o hn e => ?_) own
    simp only [List.mem_cons, List.not_mem_nil, or_false, not_or] at hn
    exact kp c o hn.1 hn.2.2.1 hn.2.2.2.1 hn.2.2.2.2 e
  self := fun A i s Q E st h => wpAny_pyIter_zip st.1 h
/-- zip of a list or a tuple with a list or a tuple -/
def iZipM (K : PySem.W.Frag) (ta : TA) : TI := fun σ H R => ta σ H fun vs H1 => ∃ k1 k2 a b xs ys, vs = [.ref a, .ref b] ∧ Sk K k1 H1 a xs ∧ Sk K k2 H1 b ys ∧ R (ItM K k1 k2 a b) H1
theorem pi_zipM {X : Cx} {e e2 : Expr} {ta : TA} {p pos tpos : Pos} {elts : List Expr} {kk : Nat} (hg : Gl X "zip") (hm : X.mg "zip" = none) (ha : PA X [e, e2] ta)
    (hs : starEach [e, e2] X.env = (false, eval e X.env) :: starEach [e2] X.env := by rfl) (hpl : (backTo pos (starEach [e2] X.env)).any (·.1) = false := by rfl) :
    PI X (.Tuple elts kk tpos) (.Call (.Name "zip" p) [e, e2] [] pos) (iZipM X.K ta) := by
  refine ⟨fun pins s σ H R I h => Call_ (ld_blt I hg hm PyProof.Rows.boot_zip (PyProof.Rows.callWith_type1 (thn (ha.run pos pins s σ H _ I h) fun us t q => ?_) hs hpl))⟩
  obtain ⟨vs, G, J, r1, k1, k2, a, b, xs, ys, ev, qx, qy, q⟩ := q
  subst ev
  cases r1 with
  | cons ra rr =>
    cases rr with
    | cons rb rr =>
      cases rr
      cases ra
      cases rb
      obtain ⟨us, ru, pu⟩ := seq_k J qx
      obtain ⟨ws, rw_, pw⟩ := seq_k J qy
      have la := seqK_lt pu
      have lb := seqK_lt pw
      generalize hN : t.heap.objs.size = N at la lb
      refine zip_begins2 (begins_k k1 a us.toArray) (begins_k k2 b ws.toArray) pu pw fun h' g1 g2 g3 g4 g5 hsz kp => wpAny_pyIter_zip g1 ?_
      rw [hN] at g1 g2 g3 g4 g5
      rw [hN]
      have J2 : Inv X pins σ G { t with heap := h' } := J.kept (t' := t.toks) kp
      have S : ZipSep2 (N + 4) (N + 2) (N + 3) N (N + 1) [N, a] [N + 1, b] :=
        zip_sep2 (fp1 := [a]) (fp2 := [b]) (fun c hc => by rw [List.mem_singleton.mp hc]; exact la) (fun c hc => by rw [List.mem_singleton.mp hc]; exact lb)
      refine ⟨N + 4, [N + 4, N + 2, N + 3, N, N + 1], _, _, G, rfl, J2, turn_m (k1 := k1) (k2 := k2) S (Nat.ne_of_lt la) (Nat.ne_of_lt (Nat.lt_succ_of_lt lb)), ⟨g1, g2, ⟨_, _, g3⟩, iter_0 g4, iter_0 g5⟩, fun c hc => ?_, q⟩
      have le : t.heap.objs.size ≤ c := by
        rw [hN]
        simp only [List.mem_cons, List.not_mem_nil, or_false] at hc
        rcases hc with h1 | h1 | h1 | h1 | h1 <;> rw [h1]
        · exact Nat.le_add_right N 4
        · exact Nat.le_add_right N 2
        · exact Nat.le_add_right N 3
        · exact Nat.le_refl N
        · exact Nat.le_add_right N 1
      exact J.fpOk le (J.hok.fresh le)
end L2

namespace LF
section
variable {κ : Type} [DecidableEq κ]
/-! ### places in a list -/
def ix : List κ → κ → Nat
  | [], _ => 0
  | a :: l, k => if a = k then 0 else ix l k + 1
theorem ix_lt : ∀ {l : List κ} {k : κ}, k ∈ l → ix l k < l.length
  | [], _, h => by cases h
  | a :: l, k, h => by
    unfold ix
    by_cases e : a = k
    · rw [if_pos e]; exact Nat.succ_pos _
    · rw [if_neg e]
      rcases List.mem_cons.mp h with rfl | h
      · exact absurd rfl e
      · exact Nat.succ_lt_succ (ix_lt h)
theorem get_ix : ∀ {l : List κ} {k : κ}, k ∈ l → l[ix l k]? = some k
  | [], _, h => by cases h
  | a :: l, k, h => by
    unfold ix
    by_cases e : a = k
    · rw [if_pos e, e]; rfl
    · rw [if_neg e]
      rcases List.mem_cons.mp h with rfl | h
      · exact absurd rfl e
      · exact get_ix h
theorem ix_get : ∀ {l : List κ} {i : Nat} {k : κ}, l.Nodup → l[i]? = some k → ix l k = i
  | [], _, _, _, h => by simp at h
  | a :: l, 0, k, _, h => by
    have e : a = k := by simpa using h
    unfold ix
    rw [if_pos e]
  | a :: l, i + 1, k, hn, h => by
    have h' : l[i]? = some k := by simpa using h
    have hm : k ∈ l := List.mem_of_getElem? h'
    have hn' := List.nodup_cons.mp hn
    have e : ¬ a = k := fun e => hn'.1 (e ▸ hm)
    unfold ix
    rw [if_neg e, ix_get hn'.2 h']
theorem ix_app : ∀ {l m : List κ} {k : κ}, k ∈ l → ix (l ++ m) k = ix l k
  | [], _, _, h => by cases h
  | a :: l, m, k, h => by
    rw [List.cons_append]
    unfold ix
    by_cases e : a = k
    · rw [if_pos e, if_pos e]
    · rw [if_neg e, if_neg e]
      rcases List.mem_cons.mp h with rfl | h
      · exact absurd rfl e
      · rw [ix_app h]
theorem ix_new : ∀ {l : List κ} {k : κ}, ¬ k ∈ l → ∀ m, ix (l ++ k :: m) k = l.length
  | [], k, _, m => by
    show ix (k :: m) k = 0
    unfold ix
    rw [if_pos rfl]
  | a :: l, k, h, m => by
    rw [List.cons_append]
    unfold ix
    have h' := fun z => h (List.mem_cons_of_mem a z)
    rw [if_neg (fun e : a = k => h (by rw [e]; exact List.mem_cons_self)), ix_new h' m]
    rfl
theorem ix_inj {l : List κ} {a b : κ} (ha : a ∈ l) (hb : b ∈ l) (e : ix l a = ix l b) : a = b := by
  have h1 := get_ix ha
  have h2 := get_ix hb
  rw [e, h2] at h1
  exact (Option.some.inj h1).symm
theorem ix_map {μ : Type} [DecidableEq μ] (f : κ → μ) : ∀ {l : List κ} {k : κ}, (∀ a ∈ l, f a = f k → a = k) → ix (l.map f) (f k) = ix l k
  | [], _, _ => rfl
  | a :: l, k, h => by
    rw [List.map_cons]
    unfold ix
    by_cases e : a = k
    · rw [if_pos e, if_pos (congrArg f e)]
    · rw [if_neg e, if_neg (fun z => e (h a List.mem_cons_self z)), ix_map f (fun b hb => h b (List.mem_cons_of_mem _ hb))]
/-! ### each once, in the order of the first places -/
def push (s : List κ) (k : κ) : List κ := if k ∈ s then s else s ++ [k]
def uniq (ks : List κ) : List κ := ks.foldl push []
def numb (ks : List κ) : List Nat := ks.map fun k => ix (uniq ks) k
theorem mem_push {s : List κ} {k x : κ} : x ∈ push s k ↔ x ∈ s ∨ x = k := by
  unfold push
  by_cases h : k ∈ s
  · rw [if_pos h]
    exact ⟨.inl, fun z => z.elim id fun e => e ▸ h⟩
  · rw [if_neg h, List.mem_append, List.mem_singleton]
theorem fold_mem : ∀ {ks s : List κ} {x : κ}, x ∈ ks.foldl push s ↔ x ∈ s ∨ x ∈ ks
  | [], s, x => by simp
  | k :: ks, s, x => by
    rw [List.foldl_cons, fold_mem, mem_push, List.mem_cons]
    constructor
    · rintro ((h | h) | h)
      · exact .inl h
      · exact .inr (.inl h)
      · exact .inr (.inr h)
    · rintro (h | h | h)
      · exact .inl (.inl h)
      · exact .inl (.inr h)
      · exact .inr h
theorem uniq_mem {ks : List κ} {x : κ} : x ∈ uniq ks ↔ x ∈ ks := by
  unfold uniq
  rw [fold_mem]
  simp
theorem nodup_snoc {s : List κ} {k : κ} (h : s.Nodup) (hk : ¬ k ∈ s) : (s ++ [k]).Nodup := by
  rw [List.nodup_append]
  refine ⟨h, by simp, fun a ha b hb => ?_⟩
  rw [List.mem_singleton] at hb
  rintro rfl
  exact hk (hb ▸ ha)
theorem push_nodup {s : List κ} {k : κ} (h : s.Nodup) : (push s k).Nodup := by
  unfold push
  by_cases hk : k ∈ s
  · rw [if_pos hk]; exact h
  · rw [if_neg hk]; exact nodup_snoc h hk
theorem fold_nodup : ∀ {ks s : List κ}, s.Nodup → (ks.foldl push s).Nodup
  | [], _, h => h
  | k :: ks, s, h => by rw [List.foldl_cons]; exact fold_nodup (push_nodup h)
theorem uniq_nodup {ks : List κ} : (uniq ks).Nodup := fold_nodup List.nodup_nil
theorem fold_pre : ∀ (ks s : List κ), ∃ t, ks.foldl push s = s ++ t
  | [], s => ⟨[], by simp⟩
  | k :: ks, s => by
    obtain ⟨t, e⟩ := fold_pre ks (push s k)
    rw [List.foldl_cons, e]
    unfold push
    by_cases h : k ∈ s
    · rw [if_pos h]; exact ⟨t, rfl⟩
    · rw [if_neg h, List.append_assoc]; exact ⟨_, rfl⟩
theorem uniq_snoc (ks : List κ) (k : κ) : uniq (ks ++ [k]) = push (uniq ks) k := by
  unfold uniq
  rw [List.foldl_append]
  rfl
theorem uniq_pre (ks ls : List κ) : ∃ t, uniq (ks ++ ls) = uniq ks ++ t := by
  unfold uniq
  rw [List.foldl_append]
  exact fold_pre ls _
theorem fold_len : ∀ (ks s : List κ), (ks.foldl push s).length ≤ s.length + ks.length
  | [], s => by simp
  | k :: ks, s => by
    rw [List.foldl_cons]
    have h := fold_len ks (push s k)
    have h2 : (push s k).length ≤ s.length + 1 := by
      unfold push
      by_cases hk : k ∈ s
      · rw [if_pos hk]; omega
      · rw [if_neg hk, List.length_append]; simp
    rw [List.length_cons]
    omega
theorem uniq_len (ks : List κ) : (uniq ks).length ≤ ks.length := by
  have := fold_len ks []
  simpa [uniq] using this
theorem numb_len (ks : List κ) : (numb ks).length = ks.length := by unfold numb; rw [List.length_map]
theorem numb_get {ks : List κ} {i : Nat} {k : κ} (h : ks[i]? = some k) : (numb ks)[i]? = some (ix (uniq ks) k) := by
  unfold numb
  rw [List.getElem?_map, h]
  rfl
theorem fold_map {μ : Type} [DecidableEq μ] (f : κ → μ) : ∀ {ks s : List κ}, (∀ a b, (a ∈ ks ∨ a ∈ s) → (b ∈ ks ∨ b ∈ s) → f a = f b → a = b) → (ks.map f).foldl push (s.map f) = (ks.foldl push s).map f
  | [], s, _ => rfl
  | k :: ks, s, h => by
    rw [List.map_cons, List.foldl_cons, List.foldl_cons]
    have e : push (s.map f) (f k) = (push s k).map f := by
      unfold push
      by_cases hk : k ∈ s
      · rw [if_pos hk, if_pos (List.mem_map_of_mem hk)]
      · have : ¬ f k ∈ s.map f := fun z => by
          obtain ⟨a, ha, e⟩ := List.mem_map.mp z
          have := h a k (.inr ha) (.inl List.mem_cons_self) e
          exact hk (this ▸ ha)
        rw [if_neg hk, if_neg this, List.map_append]
        rfl
    rw [e]
    refine fold_map f fun a b ha hb => h a b ?_ ?_
    · rcases ha with ha | ha
      · exact .inl (List.mem_cons_of_mem _ ha)
      · exact (mem_push.mp ha).elim .inr fun z => .inl (z ▸ List.mem_cons_self)
    · rcases hb with hb | hb
      · exact .inl (List.mem_cons_of_mem _ hb)
      · exact (mem_push.mp hb).elim .inr fun z => .inl (z ▸ List.mem_cons_self)
theorem uniq_map {μ : Type} [DecidableEq μ] (f : κ → μ) {ks : List κ} (h : ∀ a b, a ∈ ks → b ∈ ks → f a = f b → a = b) : uniq (ks.map f) = (uniq ks).map f := by
  have := fold_map (s := []) f (ks := ks) fun a b ha hb => h a b (by simpa using ha) (by simpa using hb)
  simpa [uniq] using this
theorem numb_map {μ : Type} [DecidableEq μ] (f : κ → μ) {ks : List κ} (h : ∀ a b, a ∈ ks → b ∈ ks → f a = f b → a = b) : numb (ks.map f) = numb ks := by
  unfold numb
  rw [uniq_map f h, List.map_map]
  refine List.map_congr_left fun k hk => ?_
  exact ix_map f fun a ha e => h a k (uniq_mem.mp ha) hk e
/-- lists with the same pattern have the same numbers -/
theorem numb_congr {μ : Type} [DecidableEq μ] {ks : List κ} {ls : List μ} (hl : ks.length = ls.length) (h : ∀ (i j : Nat) (a b : κ) (c d : μ), ks[i]? = some a → ks[j]? = some b → ls[i]? = some c → ls[j]? = some d → (a = b ↔ c = d)) : numb ks = numb ls := by
  by_cases hz : ls = []
  · subst hz
    have : ks = [] := List.length_eq_zero_iff.mp hl
    subst this
    rfl
  obtain ⟨d0, _, _⟩ := List.exists_cons_of_ne_nil hz
  let f : κ → μ := fun k => ls.getD (ix ks k) d0
  have hf : ∀ (i : Nat) (a : κ), ks[i]? = some a → ls[i]? = some (f a) := by
    intro i a hi
    have hm := List.mem_of_getElem? hi
    have h1 := get_ix hm
    have hlt := ix_lt hm
    have hlt2 : ix ks a < ls.length := by rw [← hl]; exact hlt
    have hi2 : i < ls.length := by rw [← hl]; exact (List.getElem?_eq_some_iff.mp hi).1
    have e1 : ls[ix ks a]? = some ls[ix ks a] := List.getElem?_eq_getElem hlt2
    have e2 : ls[i]? = some ls[i] := List.getElem?_eq_getElem hi2
    have := (h i (ix ks a) a a _ _ hi h1 e2 e1).mp rfl
    show ls[i]? = some (ls.getD (ix ks a) d0)
    rw [List.getD_eq_getElem?_getD, e1, e2, this]
    rfl
  have e : ls = ks.map f := by
    refine List.ext_getElem? fun i => ?_
    rw [List.getElem?_map]
    cases hi : ks[i]? with
    | none =>
      rw [List.getElem?_eq_none_iff] at hi
      exact List.getElem?_eq_none_iff.mpr (by rw [← hl]; exact hi)
    | some a => exact hf i a hi
  rw [e]
  refine (numb_map f fun a b ha hb z => ?_).symm
  obtain ⟨i, hi⟩ := List.getElem?_of_mem ha
  obtain ⟨j, hj⟩ := List.getElem?_of_mem hb
  exact (h i j a b _ _ hi hj (hf i a hi) (hf j b hj)).mpr z
theorem numb_iff {ks : List κ} {i j : Nat} {a b : κ} (hi : ks[i]? = some a) (hj : ks[j]? = some b) : ((numb ks).getD i 0 = (numb ks).getD j 0) ↔ a = b := by
  rw [List.getD_eq_getElem?_getD, List.getD_eq_getElem?_getD, numb_get hi, numb_get hj]
  constructor
  · intro e
    exact ix_inj (uniq_mem.mpr (List.mem_of_getElem? hi)) (uniq_mem.mpr (List.mem_of_getElem? hj)) e
  · rintro rfl
    rfl
end
end LF

namespace LF
section
variable {L : Type} [DecidableEq L]
/-- a row: next and word after a call of the case ahead, next and word after a call of the other one -/
abbrev Row (L : Type) := Nat × L × Nat × L
def TOk (rows : List (Row L)) : Prop := ∀ r ∈ rows, r.1 < rows.length ∧ r.2.2.1 < rows.length
def at_ (cs : List Nat) (i : Nat) : Nat := cs.getD i 0
def key1 (r : Row L) : L × L := (r.2.1, r.2.2.2)
def key2 (cs : List Nat) (x : Row L × Nat) : Nat × Nat × Nat := (at_ cs x.2, at_ cs x.1.1, at_ cs x.1.2.2.1)
def split (rows : List (Row L)) (cs : List Nat) : List Nat := numb (rows.zipIdx.map (key2 cs))
def chain (rows : List (Row L)) : Nat → List Nat
  | 0 => numb (rows.map key1)
  | k + 1 => split rows (chain rows k)
def classes (rows : List (Row L)) : List Nat := chain rows rows.length
/-- one call: the word, the next state -/
def stp (rows : List (Row L)) (s : Nat) (b : Bool) : Option (L × Nat) := rows[s]?.map fun r => if b = true then (r.2.2.2, r.2.2.1) else (r.2.1, r.1)
/-- the words of a row of calls -/
def out (rows : List (Row L)) : Nat → List Bool → List (Option L)
  | _, [] => []
  | s, b :: w => match stp rows s b with
    | none => [none]
    | some (l, t) => some l :: out rows t w
variable {rows : List (Row L)}
theorem chain_len (k : Nat) : (chain rows k).length = rows.length := by
  cases k with
  | zero => unfold chain; rw [numb_len, List.length_map]
  | succ k => unfold chain split; rw [numb_len, List.length_map, List.length_zipIdx]
theorem out_cons {s : Nat} {b : Bool} {w : List Bool} {r : Row L} (h : rows[s]? = some r) : out rows s (b :: w) = some (if b = true then r.2.2.2 else r.2.1) :: out rows (if b = true then r.2.2.1 else r.1) w := by
  cases b <;> simp [out, stp, h]
/-- equal up to words of length k -/
def Eqv (rows : List (Row L)) (k i j : Nat) : Prop := ∀ w : List Bool, w.length ≤ k → out rows i w = out rows j w
theorem zip_get {i : Nat} {r : Row L} (h : rows[i]? = some r) : (rows.zipIdx)[i]? = some (r, i) := by
  rw [List.getElem?_zipIdx, h]
  simp
theorem eqv_step {k i j : Nat} {r r' : Row L} (hi : rows[i]? = some r) (hj : rows[j]? = some r') :
    Eqv rows (k + 1) i j ↔ (key1 r = key1 r' ∧ Eqv rows k r.1 r'.1 ∧ Eqv rows k r.2.2.1 r'.2.2.1) := by
  constructor
  · intro h
    have h0 := h [false] (by simp)
    have h1 := h [true] (by simp)
    rw [out_cons hi, out_cons hj] at h0 h1
    have e0 : r.2.1 = r'.2.1 := by
      have := (List.cons.inj h0).1
      simpa using this
    have e1 : r.2.2.2 = r'.2.2.2 := by
      have := (List.cons.inj h1).1
      simpa using this
    refine ⟨by unfold key1; rw [e0, e1], fun w hw => ?_, fun w hw => ?_⟩
    · have h2 := h (false :: w) (by rw [List.length_cons]; omega)
      rw [out_cons hi, out_cons hj] at h2
      simpa using (List.cons.inj h2).2
    · have h2 := h (true :: w) (by rw [List.length_cons]; omega)
      rw [out_cons hi, out_cons hj] at h2
      simpa using (List.cons.inj h2).2
  · rintro ⟨hk, h0, h1⟩ w hw
    have e0 : r.2.1 = r'.2.1 := (Prod.mk.inj hk).1
    have e1 : r.2.2.2 = r'.2.2.2 := (Prod.mk.inj hk).2
    cases w with
    | nil => rfl
    | cons b w =>
      rw [List.length_cons] at hw
      rw [out_cons hi, out_cons hj]
      cases b
      · simp only [Bool.false_eq_true, if_false]
        rw [e0, h0 w (by omega)]
      · simp only [if_true]
        rw [e1, h1 w (by omega)]
theorem eqv_mono {k m i j : Nat} (h : Eqv rows k i j) (hm : m ≤ k) : Eqv rows m i j := fun w hw => h w (Nat.le_trans hw hm)
theorem chain_iff (ok : TOk rows) : ∀ (k : Nat) {i j : Nat}, i < rows.length → j < rows.length → (at_ (chain rows k) i = at_ (chain rows k) j ↔ Eqv rows (k + 1) i j)
  | 0, i, j, hi, hj => by
    have ei : rows[i]? = some rows[i] := List.getElem?_eq_getElem hi
    have ej : rows[j]? = some rows[j] := List.getElem?_eq_getElem hj
    rw [eqv_step ei ej]
    have := numb_iff (ks := rows.map key1) (i := i) (j := j) (a := key1 rows[i]) (b := key1 rows[j]) (by rw [List.getElem?_map, ei]; rfl) (by rw [List.getElem?_map, ej]; rfl)
    unfold at_ chain
    rw [this]
    refine ⟨fun h => ⟨h, fun w hw => ?_, fun w hw => ?_⟩, fun h => h.1⟩
    · have : w = [] := List.length_eq_zero_iff.mp (by omega)
      subst this; rfl
    · have : w = [] := List.length_eq_zero_iff.mp (by omega)
      subst this; rfl
  | k + 1, i, j, hi, hj => by
    have ei : rows[i]? = some rows[i] := List.getElem?_eq_getElem hi
    have ej : rows[j]? = some rows[j] := List.getElem?_eq_getElem hj
    have oi := ok _ (List.getElem_mem hi)
    have oj := ok _ (List.getElem_mem hj)
    have := numb_iff (ks := rows.zipIdx.map (key2 (chain rows k))) (i := i) (j := j) (a := key2 (chain rows k) (rows[i], i)) (b := key2 (chain rows k) (rows[j], j)) (by rw [List.getElem?_map, zip_get ei]; rfl) (by rw [List.getElem?_map, zip_get ej]; rfl)
    have e1 := chain_iff ok k hi hj
    have e2 := chain_iff ok k oi.1 oj.1
    have e3 := chain_iff ok k oi.2 oj.2
    have e : (at_ (chain rows (k + 1)) i = at_ (chain rows (k + 1)) j) ↔ key2 (chain rows k) (rows[i], i) = key2 (chain rows k) (rows[j], j) := this
    rw [e, eqv_step ei ej]
    unfold key2
    simp only [Prod.mk.injEq]
    rw [e1, e2, e3]
    constructor
    · rintro ⟨h1, h2, h3⟩
      exact ⟨((eqv_step ei ej).mp h1).1, h2, h3⟩
    · rintro ⟨h1, h2, h3⟩
      exact ⟨(eqv_step ei ej).mpr ⟨h1, eqv_mono h2 (by omega), eqv_mono h3 (by omega)⟩, h2, h3⟩
/-! ### the chain comes to rest -/
theorem getD_of {cs : List Nat} {i x : Nat} (h : cs[i]? = some x) : at_ cs i = x := by unfold at_; rw [List.getD_eq_getElem?_getD, h]; rfl
theorem get_of_lt {cs : List Nat} {i : Nat} (h : i < cs.length) : cs[i]? = some (at_ cs i) := by
  have : cs[i]? = some cs[i] := List.getElem?_eq_getElem h
  rw [this, getD_of this]
/-- numbers by the pattern alone -/
theorem numb_self {κ : Type} [DecidableEq κ] (ks : List κ) : numb (numb ks) = numb ks := by
  refine numb_congr (by rw [numb_len]) fun i j a b c d h1 h2 h3 h4 => ?_
  have := numb_iff h3 h4
  have e1 := getD_of h1
  have e2 := getD_of h2
  unfold at_ at e1 e2
  rw [e1, e2] at this
  exact this
theorem chain_numb (k : Nat) : numb (chain rows k) = chain rows k := by
  cases k with
  | zero => exact numb_self _
  | succ k => exact numb_self _
/-- where the chain rests it rests for ever -/
theorem chain_rest {k : Nat} (h : chain rows k = chain rows (k + 1)) : ∀ m, chain rows (k + m) = chain rows k
  | 0 => rfl
  | m + 1 => by
    show split rows (chain rows (k + m)) = _
    rw [chain_rest h m]
    exact h.symm
/-- the pattern of the next one is finer -/
theorem chain_fine (ok : TOk rows) {k i j : Nat} (hi : i < rows.length) (hj : j < rows.length) (h : at_ (chain rows (k + 1)) i = at_ (chain rows (k + 1)) j) : at_ (chain rows k) i = at_ (chain rows k) j :=
  (chain_iff ok k hi hj).mpr (eqv_mono ((chain_iff ok (k + 1) hi hj).mp h) (by omega))
end
end LF

namespace LF
theorem count_lt {α : Type} {p q : α → Bool} : ∀ {l : List α}, (∀ x ∈ l, p x = true → q x = true) → (∃ x ∈ l, q x = true ∧ ¬ p x = true) → l.countP p < l.countP q
  | [], _, ⟨x, hx, _⟩ => by cases hx
  | a :: l, h, ⟨x, hx, hq, hp⟩ => by
    have h' : ∀ x ∈ l, p x = true → q x = true := fun y hy => h y (List.mem_cons_of_mem _ hy)
    have le : l.countP p ≤ l.countP q := List.countP_mono_left h'
    rw [List.countP_cons, List.countP_cons]
    rcases List.mem_cons.mp hx with rfl | hx
    · rw [if_pos hq, if_neg hp]; omega
    · have lt := count_lt h' ⟨x, hx, hq, hp⟩
      by_cases pa : p a = true
      · rw [if_pos pa, if_pos (h a List.mem_cons_self pa)]; omega
      · rw [if_neg pa]; omega
def pairs (n : Nat) : List (Nat × Nat) := (List.range n).flatMap fun i => (List.range n).map fun j => (i, j)
theorem mem_pairs {n i j : Nat} : (i, j) ∈ pairs n ↔ i < n ∧ j < n := by
  unfold pairs
  simp [List.mem_flatMap]
theorem sum_const : ∀ (l : List Nat) (n : Nat), (l.map fun _ => n).sum = l.length * n
  | [], n => by simp
  | a :: l, n => by rw [List.map_cons, List.sum_cons, sum_const l n, List.length_cons, Nat.succ_mul]; omega
theorem pairs_len (n : Nat) : (pairs n).length = n * n := by
  unfold pairs
  simp [List.length_flatMap]
  rw [sum_const, List.length_range]
section
variable {L : Type} [DecidableEq L] {rows : List (Row L)}
def same_ (cs : List Nat) (p : Nat × Nat) : Bool := decide (at_ cs p.1 = at_ cs p.2)
def mass (rows : List (Row L)) (k : Nat) : Nat := (pairs rows.length).countP (same_ (chain rows k))
theorem mass_le (k : Nat) : mass rows k ≤ rows.length * rows.length := by
  have := List.countP_le_length (p := same_ (chain rows k)) (l := pairs rows.length)
  rw [pairs_len] at this
  exact this
theorem chain_eq {a b : Nat} (h : ∀ i j, i < rows.length → j < rows.length → (at_ (chain rows a) i = at_ (chain rows a) j ↔ at_ (chain rows b) i = at_ (chain rows b) j)) : chain rows a = chain rows b := by
  rw [← chain_numb a, ← chain_numb b]
  refine numb_congr (by rw [chain_len, chain_len]) fun i j x y u v h1 h2 h3 h4 => ?_
  have hi : i < rows.length := by rw [← chain_len (rows := rows) a]; exact (List.getElem?_eq_some_iff.mp h1).1
  have hj : j < rows.length := by rw [← chain_len (rows := rows) a]; exact (List.getElem?_eq_some_iff.mp h2).1
  have := h i j hi hj
  rw [getD_of h1, getD_of h2, getD_of h3, getD_of h4] at this
  exact this
theorem mass_lt (ok : TOk rows) {k : Nat} (h : ¬ chain rows k = chain rows (k + 1)) : mass rows (k + 1) < mass rows k := by
  have : ∃ i j, i < rows.length ∧ j < rows.length ∧ at_ (chain rows k) i = at_ (chain rows k) j ∧ ¬ at_ (chain rows (k + 1)) i = at_ (chain rows (k + 1)) j := by
    refine Classical.byContradiction fun n => h (chain_eq fun i j hi hj => ⟨fun e => ?_, chain_fine ok hi hj⟩)
    exact Classical.byContradiction fun ne => n ⟨i, j, hi, hj, e, ne⟩
  obtain ⟨i, j, hi, hj, e, ne⟩ := this
  unfold mass
  refine count_lt (fun p hp => ?_) ⟨(i, j), mem_pairs.mpr ⟨hi, hj⟩, decide_eq_true e, fun z => ne (of_decide_eq_true z)⟩
  obtain ⟨a, b⟩ := p
  have hab := mem_pairs.mp hp
  intro z
  exact decide_eq_true (chain_fine ok hab.1 hab.2 (of_decide_eq_true z))
theorem mass_low (ok : TOk rows) : ∀ k, (∀ j < k, ¬ chain rows j = chain rows (j + 1)) → mass rows k + k ≤ rows.length * rows.length
  | 0, _ => mass_le 0
  | k + 1, h => by
    have h1 := mass_low ok k fun j hj => h j (by omega)
    have h2 := mass_lt ok (h k (by omega))
    omega
def cls (rows : List (Row L)) : List Nat := chain rows (rows.length * rows.length)
/-- where it rests first, that is the classes -/
theorem cls_of (ok : TOk rows) {k : Nat} (hk : ∀ j < k, ¬ chain rows j = chain rows (j + 1)) (h : chain rows k = chain rows (k + 1)) : cls rows = chain rows k := by
  have := mass_low ok k hk
  have e : rows.length * rows.length = k + (rows.length * rows.length - k) := by omega
  unfold cls
  rw [e]
  exact chain_rest h _
theorem rests (ok : TOk rows) : ∃ k ≤ rows.length * rows.length, (∀ j < k, ¬ chain rows j = chain rows (j + 1)) ∧ chain rows k = chain rows (k + 1) := by
  have go : ∀ m k, m + k = rows.length * rows.length → (∀ j < k, ¬ chain rows j = chain rows (j + 1)) → ∃ k ≤ rows.length * rows.length, (∀ j < k, ¬ chain rows j = chain rows (j + 1)) ∧ chain rows k = chain rows (k + 1) := by
    intro m
    induction m with
    | zero =>
      intro k hm hk
      refine ⟨k, by omega, hk, Classical.byContradiction fun ne => ?_⟩
      have h1 := mass_low ok (k + 1) fun j hj => by
        rcases Nat.lt_or_ge j k with h | h
        · exact hk j h
        · have : j = k := by omega
          rw [this]; exact ne
      omega
    | succ m ih =>
      intro k hm hk
      by_cases e : chain rows k = chain rows (k + 1)
      · exact ⟨k, by omega, hk, e⟩
      · refine ih (k + 1) (by omega) fun j hj => ?_
        rcases Nat.lt_or_ge j k with h | h
        · exact hk j h
        · have : j = k := by omega
          rw [this]; exact e
  exact go _ 0 rfl fun j hj => by omega
/-- no calls tell the states apart -/
def Alk (rows : List (Row L)) (i : Nat) (rows' : List (Row L)) (j : Nat) : Prop := ∀ w, out rows i w = out rows' j w
theorem cls_len : (cls rows).length = rows.length := chain_len _
theorem cls_iff (ok : TOk rows) {i j : Nat} (hi : i < rows.length) (hj : j < rows.length) : at_ (cls rows) i = at_ (cls rows) j ↔ Alk rows i rows j := by
  obtain ⟨k, _, hk, hr⟩ := rests ok
  rw [cls_of ok hk hr]
  constructor
  · intro e w
    have := (chain_iff ok (k + w.length) hi hj).mp (by rw [chain_rest hr]; exact e)
    exact this w (by omega)
  · intro h
    exact (chain_iff ok k hi hj).mpr fun w _ => h w
theorem cls_numb : numb (cls rows) = cls rows := chain_numb _
end
end LF

namespace LF
section
variable {L : Type} [DecidableEq L] {rows : List (Row L)}
def renum (f : Nat → Nat) (r : Row L) : Row L := (f r.1, r.2.1, f r.2.2.1, r.2.2.2)
def mstep (cs : List Nat) (acc : List (Row L)) (x : Row L × Nat) : List (Row L) := if at_ cs x.2 = acc.length then acc ++ [renum (at_ cs) x.1] else acc
def merged (rows : List (Row L)) (cs : List Nat) : List (Row L) := rows.zipIdx.foldl (mstep cs) []
theorem take_next {α : Type} {l : List α} {i : Nat} {x : α} (h : l[i]? = some x) : l.take (i + 1) = l.take i ++ [x] := by
  rw [List.take_add_one, h]
  rfl
theorem merged_pre {cs : List Nat} (hc : numb cs = cs) (hl : cs.length = rows.length) : ∀ i ≤ rows.length, ((rows.zipIdx.take i).foldl (mstep cs) []).length = (uniq (cs.take i)).length ∧
    ∀ j < i, ∃ j0 r0, rows[j0]? = some r0 ∧ at_ cs j0 = at_ cs j ∧ ((rows.zipIdx.take i).foldl (mstep cs) [])[at_ cs j]? = some (renum (at_ cs) r0)
  | 0, _ => ⟨rfl, fun j hj => absurd hj (Nat.not_lt_zero _)⟩
  | i + 1, hi => by
    obtain ⟨h1, h2⟩ := merged_pre hc hl i (by omega)
    have hir : i < rows.length := by omega
    have er : rows[i]? = some rows[i] := List.getElem?_eq_getElem hir
    have ec : cs[i]? = some (at_ cs i) := get_of_lt (by rw [hl]; exact hir)
    rw [take_next (zip_get er), List.foldl_append, take_next ec, uniq_snoc]
    show (mstep cs _ _).length = _ ∧ _
    have en : at_ cs i = ix (uniq cs) (at_ cs i) := by
      have := numb_get ec
      rw [hc, ec] at this
      exact Option.some.inj this
    generalize hacc : (rows.zipIdx.take i).foldl (mstep cs) [] = acc at h1 h2
    obtain ⟨t, ht⟩ := uniq_pre (cs.take (i + 1)) (cs.drop (i + 1))
    rw [List.take_append_drop, take_next ec, uniq_snoc] at ht
    by_cases hm : at_ cs i ∈ uniq (cs.take i)
    · have hp : push (uniq (cs.take i)) (at_ cs i) = uniq (cs.take i) := by unfold push; rw [if_pos hm]
      rw [hp] at ht ⊢
      have hlt : at_ cs i < acc.length := by
        rw [en, ht, ix_app hm, h1]
        exact ix_lt hm
      have hms : mstep cs acc (rows[i], i) = acc := by
        unfold mstep
        rw [if_neg (by show ¬ at_ cs i = acc.length; omega)]
      show (mstep cs acc (rows[i], i)).length = _ ∧ ∀ j < i + 1, ∃ j0 r0, rows[j0]? = some r0 ∧ at_ cs j0 = at_ cs j ∧ (mstep cs acc (rows[i], i))[at_ cs j]? = some (renum (at_ cs) r0)
      rw [hms]
      refine ⟨h1, fun j hj => ?_⟩
      rcases Nat.lt_or_ge j i with h | h
      · exact h2 j h
      · have : j = i := by omega
        subst this
        obtain ⟨j1, hj1⟩ := List.getElem?_of_mem (uniq_mem.mp hm)
        have hj1' : j1 < j := by
          have := (List.getElem?_eq_some_iff.mp hj1).1
          rw [List.length_take] at this
          omega
        have e1 : at_ cs j1 = at_ cs j := by
          rw [List.getElem?_take, if_pos hj1'] at hj1
          exact getD_of hj1
        obtain ⟨j0, r0, a, b, c⟩ := h2 j1 hj1'
        exact ⟨j0, r0, a, b.trans e1, by rw [← e1]; exact c⟩
    · have hp : push (uniq (cs.take i)) (at_ cs i) = uniq (cs.take i) ++ [at_ cs i] := by unfold push; rw [if_neg hm]
      rw [hp] at ht ⊢
      have heq : at_ cs i = acc.length := by
        have h3 : uniq cs = uniq (cs.take i) ++ at_ cs i :: t := by rw [ht, List.append_assoc]; rfl
        rw [h1]
        conv => lhs; rw [en, h3]
        exact ix_new hm t
      have hms : mstep cs acc (rows[i], i) = acc ++ [renum (at_ cs) rows[i]] := by
        unfold mstep
        rw [if_pos heq]
      show (mstep cs acc (rows[i], i)).length = _ ∧ ∀ j < i + 1, ∃ j0 r0, rows[j0]? = some r0 ∧ at_ cs j0 = at_ cs j ∧ (mstep cs acc (rows[i], i))[at_ cs j]? = some (renum (at_ cs) r0)
      rw [hms]
      refine ⟨by rw [List.length_append, List.length_append, h1]; rfl, fun j hj => ?_⟩
      rcases Nat.lt_or_ge j i with h | h
      · obtain ⟨j0, r0, a, b, c⟩ := h2 j h
        refine ⟨j0, r0, a, b, ?_⟩
        rw [List.getElem?_append_left (List.getElem?_eq_some_iff.mp c).1]
        exact c
      · have : j = i := by omega
        subst this
        exact ⟨j, rows[j], er, rfl, by rw [heq, List.getElem?_append_right (Nat.le_refl _), Nat.sub_self]; rfl⟩
abbrev mg (rows : List (Row L)) : List (Row L) := merged rows (cls rows)
theorem mg_get {j : Nat} (hj : j < rows.length) : ∃ j0 r0, rows[j0]? = some r0 ∧ at_ (cls rows) j0 = at_ (cls rows) j ∧ (mg rows)[at_ (cls rows) j]? = some (renum (at_ (cls rows)) r0) := by
  obtain ⟨_, h⟩ := merged_pre (rows := rows) (cs := cls rows) cls_numb cls_len rows.length (Nat.le_refl _)
  have e : rows.zipIdx.take rows.length = rows.zipIdx := List.take_of_length_le (by rw [List.length_zipIdx]; exact Nat.le_refl _)
  rw [e] at h
  exact h j hj
theorem mg_len : (mg rows).length = (uniq (cls rows)).length := by
  obtain ⟨h, _⟩ := merged_pre (rows := rows) (cs := cls rows) cls_numb cls_len rows.length (Nat.le_refl _)
  have e : rows.zipIdx.take rows.length = rows.zipIdx := List.take_of_length_le (by rw [List.length_zipIdx]; exact Nat.le_refl _)
  rw [e, List.take_of_length_le (by rw [cls_len]; exact Nat.le_refl _)] at h
  exact h
theorem mg_le : (mg rows).length ≤ rows.length := by
  rw [mg_len, ← cls_len (rows := rows)]
  exact uniq_len _
theorem cls_lt {j : Nat} (hj : j < rows.length) : at_ (cls rows) j < (mg rows).length := by
  obtain ⟨_, _, _, _, h⟩ := mg_get hj
  exact (List.getElem?_eq_some_iff.mp h).1
/-- each state of the merged table is the class of one -/
theorem mg_onto {k : Nat} (hk : k < (mg rows).length) : ∃ j < rows.length, at_ (cls rows) j = k := by
  rw [mg_len] at hk
  have e : (uniq (cls rows))[k]? = some (uniq (cls rows))[k] := List.getElem?_eq_getElem hk
  generalize (uniq (cls rows))[k] = u at e
  obtain ⟨j, hj⟩ := List.getElem?_of_mem (uniq_mem.mp (List.mem_of_getElem? e))
  refine ⟨j, by rw [← cls_len (rows := rows)]; exact (List.getElem?_eq_some_iff.mp hj).1, ?_⟩
  have h1 := numb_get hj
  rw [cls_numb, ix_get uniq_nodup e] at h1
  exact getD_of h1
theorem mg_ok (ok : TOk rows) : TOk (mg rows) := by
  intro r hr
  obtain ⟨k, hk⟩ := List.getElem?_of_mem hr
  obtain ⟨j, hj, e⟩ := mg_onto (List.getElem?_eq_some_iff.mp hk).1
  obtain ⟨j0, r0, h1, h2, h3⟩ := mg_get hj
  rw [e, hk] at h3
  have : r = renum (at_ (cls rows)) r0 := Option.some.inj h3
  rw [this]
  have o := ok r0 (List.mem_of_getElem? h1)
  exact ⟨cls_lt o.1, cls_lt o.2⟩
theorem alk_step (ok : TOk rows) {i j : Nat} {r r' : Row L} (hi : rows[i]? = some r) (hj : rows[j]? = some r') (h : Alk rows i rows j) : key1 r = key1 r' ∧ Alk rows r.1 rows r'.1 ∧ Alk rows r.2.2.1 rows r'.2.2.1 := by
  have h1 := (eqv_step (k := 0) hi hj).mp fun w _ => h w
  refine ⟨h1.1, fun w => ?_, fun w => ?_⟩
  · exact ((eqv_step (k := w.length) hi hj).mp fun w _ => h w).2.1 w (Nat.le_refl _)
  · exact ((eqv_step (k := w.length) hi hj).mp fun w _ => h w).2.2 w (Nat.le_refl _)
theorem mg_out (ok : TOk rows) : ∀ (w : List Bool) {j : Nat}, j < rows.length → out (mg rows) (at_ (cls rows) j) w = out rows j w
  | [], j, _ => by simp [out]
  | b :: w, j, hj => by
    obtain ⟨j0, r0, h1, h2, h3⟩ := mg_get hj
    have ej : rows[j]? = some rows[j] := List.getElem?_eq_getElem hj
    have hj0 : j0 < rows.length := (List.getElem?_eq_some_iff.mp h1).1
    have al := (cls_iff ok hj0 hj).mp h2
    obtain ⟨k1, k2, k3⟩ := alk_step ok h1 ej al
    have e0 : r0.2.1 = rows[j].2.1 := (Prod.mk.inj k1).1
    have e1 : r0.2.2.2 = rows[j].2.2.2 := (Prod.mk.inj k1).2
    have o0 := ok r0 (List.mem_of_getElem? h1)
    rw [out_cons h3, out_cons ej]
    cases b
    · show some r0.2.1 :: out (mg rows) (at_ (cls rows) r0.1) w = some rows[j].2.1 :: out rows rows[j].1 w
      rw [e0, mg_out ok w o0.1, k2 w]
    · show some r0.2.2.2 :: out (mg rows) (at_ (cls rows) r0.2.2.1) w = some rows[j].2.2.2 :: out rows rows[j].2.2.1 w
      rw [e1, mg_out ok w o0.2, k3 w]
/-- no two states are alike -/
def Apart (rows : List (Row L)) : Prop := ∀ i j, i < rows.length → j < rows.length → Alk rows i rows j → i = j
theorem mg_apart (ok : TOk rows) : Apart (mg rows) := by
  intro i j hi hj h
  obtain ⟨i', hi', rfl⟩ := mg_onto hi
  obtain ⟨j', hj', rfl⟩ := mg_onto hj
  refine (cls_iff ok hi' hj').mpr fun w => ?_
  have := h w
  rw [mg_out ok w hi', mg_out ok w hj'] at this
  exact this
end
end LF

namespace LF
/-- two lists, place by place -/
inductive F2 {α β : Type} (R : α → β → Prop) : List α → List β → Prop
  | nil : F2 R [] []
  | cons {a : α} {b : β} {l : List α} {m : List β} : R a b → F2 R l m → F2 R (a :: l) (b :: m)
section
variable {α β : Type} {R : α → β → Prop}
theorem F2.append : ∀ {l l' : List α} {m m' : List β}, F2 R l m → F2 R l' m' → F2 R (l ++ l') (m ++ m')
  | _, _, _, _, .nil, h => h
  | _, _, _, _, .cons r t, h => .cons r (t.append h)
theorem F2.len : ∀ {l : List α} {m : List β}, F2 R l m → l.length = m.length
  | _, _, .nil => rfl
  | _, _, .cons _ t => by rw [List.length_cons, List.length_cons, t.len]
theorem F2.get : ∀ {l : List α} {m : List β} {i : Nat} {a : α} {b : β}, F2 R l m → l[i]? = some a → m[i]? = some b → R a b
  | _, _, _, _, _, .nil, h, _ => by simp at h
  | _, _, 0, _, _, .cons r _, h1, h2 => by
    simp at h1 h2
    subst h1 h2
    exact r
  | _, _, i + 1, _, _, .cons _ t, h1, h2 => t.get (i := i) (by simpa using h1) (by simpa using h2)
theorem F2.left : ∀ {l : List α} {m : List β} {a : α}, F2 R l m → a ∈ l → ∃ b ∈ m, R a b
  | _, _, _, .nil, h => by cases h
  | _, _, _, .cons (b := b) r t, h => by
    rcases List.mem_cons.mp h with rfl | h
    · exact ⟨b, List.mem_cons_self, r⟩
    · obtain ⟨c, hc, q⟩ := t.left h
      exact ⟨c, List.mem_cons_of_mem _ hc, q⟩
theorem F2.right : ∀ {l : List α} {m : List β} {b : β}, F2 R l m → b ∈ m → ∃ a ∈ l, R a b
  | _, _, _, .nil, h => by cases h
  | _, _, _, .cons (a := a) r t, h => by
    rcases List.mem_cons.mp h with rfl | h
    · exact ⟨a, List.mem_cons_self, r⟩
    · obtain ⟨c, hc, q⟩ := t.right h
      exact ⟨c, List.mem_cons_of_mem _ hc, q⟩
theorem F2.of {l : List α} {m : List β} (hl : l.length = m.length) (h : ∀ (i : Nat) (a : α) (b : β), l[i]? = some a → m[i]? = some b → R a b) : F2 R l m := by
  induction l generalizing m with
  | nil =>
    cases m with
    | nil => exact .nil
    | cons _ _ => cases hl
  | cons a l ih =>
    cases m with
    | nil => cases hl
    | cons b m => exact .cons (h 0 a b rfl rfl) (ih (by simpa using hl) fun i x y h1 h2 => h (i + 1) x y (by simpa using h1) (by simpa using h2))
end
/-- different numbers below n are at most n -/
theorem few : ∀ (n : Nat) {l : List Nat}, l.Nodup → (∀ x ∈ l, x < n) → l.length ≤ n
  | 0, l, _, h => by
    cases l with
    | nil => exact Nat.le_refl _
    | cons a l => exact absurd (h a List.mem_cons_self) (Nat.not_lt_zero _)
  | n + 1, l, hn, h => by
    have h1 := few n (l := l.erase n) (hn.erase n) fun x hx => by
      have hm := List.mem_of_mem_erase hx
      have hlt := h x hm
      have ne : x ≠ n := fun e => by
        rw [e] at hx
        exact (List.Nodup.not_mem_erase hn) hx
      omega
    by_cases hm : n ∈ l
    · rw [List.length_erase_of_mem hm] at h1
      omega
    · rw [List.erase_of_not_mem hm] at h1
      omega
section
variable {L : Type} [DecidableEq L] {rows : List (Row L)}
/-- the visit: what waits, what has been visited -/
def visit (rows : List (Row L)) : Nat → List Nat → List Nat → List Nat
  | 0, _, s => s
  | _ + 1, [], s => s
  | f + 1, x :: w, s => if x ∈ s then visit rows f w s else match rows[x]? with
    | none => s
    | some r => visit rows f (w ++ [r.1, r.2.2.1]) (s ++ [x])
structure VOk (rows : List (Row L)) (w s : List Nat) : Prop where
  ok : TOk rows
  hw : ∀ x ∈ w, x < rows.length
  hs : ∀ x ∈ s, x < rows.length
  nd : s.Nodup
theorem visit_old {f x : Nat} {w s : List Nat} (h : x ∈ s) : visit rows (f + 1) (x :: w) s = visit rows f w s := by
  show (if x ∈ s then _ else _) = _
  rw [if_pos h]
theorem visit_new {f x : Nat} {w s : List Nat} {r : Row L} (h : ¬ x ∈ s) (hr : rows[x]? = some r) : visit rows (f + 1) (x :: w) s = visit rows f (w ++ [r.1, r.2.2.1]) (s ++ [x]) := by
  show (if x ∈ s then _ else match rows[x]? with | none => s | some r => visit rows f (w ++ [r.1, r.2.2.1]) (s ++ [x])) = _
  rw [if_neg h, hr]
def need (rows : List (Row L)) (w s : List Nat) : Nat := w.length + 2 * (rows.length - s.length)
theorem VOk.old {x : Nat} {w s : List Nat} (v : VOk rows (x :: w) s) : VOk rows w s := ⟨v.ok, fun y hy => v.hw y (List.mem_cons_of_mem _ hy), v.hs, v.nd⟩
theorem VOk.new {x : Nat} {w s : List Nat} {r : Row L} (v : VOk rows (x :: w) s) (h : ¬ x ∈ s) (hr : rows[x]? = some r) : VOk rows (w ++ [r.1, r.2.2.1]) (s ++ [x]) := by
  have o := v.ok r (List.mem_of_getElem? hr)
  refine ⟨v.ok, fun y hy => ?_, fun y hy => ?_, nodup_snoc v.nd h⟩
  · rcases List.mem_append.mp hy with hy | hy
    · exact v.hw y (List.mem_cons_of_mem _ hy)
    · simp at hy
      rcases hy with rfl | rfl
      · exact o.1
      · exact o.2
  · rcases List.mem_append.mp hy with hy | hy
    · exact v.hs y hy
    · rw [List.mem_singleton.mp hy]
      exact v.hw x List.mem_cons_self
theorem VOk.room {x : Nat} {w s : List Nat} (v : VOk rows (x :: w) s) (h : ¬ x ∈ s) : s.length < rows.length := by
  have := few rows.length (nodup_snoc v.nd h) fun y hy => by
    rcases List.mem_append.mp hy with hy | hy
    · exact v.hs y hy
    · rw [List.mem_singleton.mp hy]
      exact v.hw x List.mem_cons_self
  rw [List.length_append] at this
  exact this
theorem need_new {x : Nat} {w s : List Nat} {r : Row L} (v : VOk rows (x :: w) s) (h : ¬ x ∈ s) : need rows (w ++ [r.1, r.2.2.1]) (s ++ [x]) + 1 = need rows (x :: w) s := by
  have := v.room h
  unfold need
  simp
  omega
/-- more fuel changes nothing -/
theorem visit_more : ∀ (f : Nat) {w s : List Nat}, VOk rows w s → need rows w s ≤ f → visit rows (f + 1) w s = visit rows f w s
  | 0, w, s, v, h => by
    have : w = [] := List.length_eq_zero_iff.mp (by unfold need at h; omega)
    subst this
    rfl
  | f + 1, [], s, v, h => rfl
  | f + 1, x :: w, s, v, h => by
    by_cases hx : x ∈ s
    · rw [visit_old hx, visit_old hx]
      refine visit_more f v.old ?_
      unfold need at h ⊢
      rw [List.length_cons] at h
      omega
    · have hlt := v.hw x List.mem_cons_self
      have hr : rows[x]? = some rows[x] := List.getElem?_eq_getElem hlt
      rw [visit_new hx hr, visit_new hx hr]
      refine visit_more f (v.new hx hr) ?_
      have := need_new (r := rows[x]) v hx
      omega
theorem visit_fuel {f : Nat} {w s : List Nat} (v : VOk rows w s) (h : need rows w s ≤ f) : ∀ k, visit rows (f + k) w s = visit rows f w s
  | 0 => rfl
  | k + 1 => by
    rw [← Nat.add_assoc, visit_more (f + k) v (by omega)]
    exact visit_fuel v h k
/-- what a visit comes to -/
structure VEnd (rows : List (Row L)) (w s o : List Nat) : Prop where
  pre : ∃ t, o = s ++ t
  nd : o.Nodup
  lt : ∀ x ∈ o, x < rows.length
  all : ∀ x ∈ w, x ∈ o
  closed : (∀ x ∈ s, ∀ r, rows[x]? = some r → (r.1 ∈ s ∨ r.1 ∈ w) ∧ (r.2.2.1 ∈ s ∨ r.2.2.1 ∈ w)) → ∀ x ∈ o, ∀ r, rows[x]? = some r → r.1 ∈ o ∧ r.2.2.1 ∈ o
theorem visit_end : ∀ (f : Nat) {w s : List Nat}, VOk rows w s → need rows w s ≤ f → VEnd rows w s (visit rows f w s)
  | 0, w, s, v, h => by
    have : w = [] := List.length_eq_zero_iff.mp (by unfold need at h; omega)
    subst this
    refine ⟨⟨[], by simp [visit]⟩, v.nd, v.hs, fun x hx => (by cases hx), fun c x hx r hr => ?_⟩
    have := c x hx r hr
    exact ⟨this.1.elim id fun z => (by cases z), this.2.elim id fun z => (by cases z)⟩
  | f + 1, [], s, v, h => by
    refine ⟨⟨[], by simp [visit]⟩, v.nd, v.hs, fun x hx => (by cases hx), fun c x hx r hr => ?_⟩
    have := c x hx r hr
    exact ⟨this.1.elim id fun z => (by cases z), this.2.elim id fun z => (by cases z)⟩
  | f + 1, x :: w, s, v, h => by
    by_cases hx : x ∈ s
    · rw [visit_old hx]
      have e := visit_end f v.old (by unfold need at h ⊢; rw [List.length_cons] at h; omega)
      obtain ⟨t, ht⟩ := e.pre
      refine ⟨e.pre, e.nd, e.lt, fun y hy => ?_, fun c => e.closed fun y hy r hr => ?_⟩
      · rcases List.mem_cons.mp hy with rfl | hy
        · rw [ht]; exact List.mem_append_left _ hx
        · exact e.all y hy
      · have c1 := c y hy r hr
        refine ⟨c1.1.elim .inl fun z => ?_, c1.2.elim .inl fun z => ?_⟩
        · exact (List.mem_cons.mp z).elim (fun e => .inl (e ▸ hx)) .inr
        · exact (List.mem_cons.mp z).elim (fun e => .inl (e ▸ hx)) .inr
    · have hlt := v.hw x List.mem_cons_self
      have hr : rows[x]? = some rows[x] := List.getElem?_eq_getElem hlt
      rw [visit_new hx hr]
      have e := visit_end f (v.new hx hr) (by have := need_new (r := rows[x]) v hx; omega)
      obtain ⟨t, ht⟩ := e.pre
      refine ⟨⟨[x] ++ t, by rw [ht, List.append_assoc]⟩, e.nd, e.lt, fun y hy => ?_, fun c => e.closed fun y hy r hr' => ?_⟩
      · rcases List.mem_cons.mp hy with rfl | hy
        · rw [ht]; exact List.mem_append_left _ (List.mem_append_right _ (List.mem_singleton.mpr rfl))
        · exact e.all y (List.mem_append_left _ hy)
      · rcases List.mem_append.mp hy with hy | hy
        · have c1 := c y hy r hr'
          have go : ∀ z, z ∈ s ∨ z ∈ x :: w → z ∈ s ++ [x] ∨ z ∈ w ++ [rows[x].1, rows[x].2.2.1] := fun z hz => by
            rcases hz with hz | hz
            · exact .inl (List.mem_append_left _ hz)
            · rcases List.mem_cons.mp hz with rfl | hz
              · exact .inl (List.mem_append_right _ (List.mem_singleton.mpr rfl))
              · exact .inr (List.mem_append_left _ hz)
          exact ⟨go _ c1.1, go _ c1.2⟩
        · have : y = x := List.mem_singleton.mp hy
          subst this
          rw [hr] at hr'
          cases hr'
          exact ⟨.inr (List.mem_append_right _ (by simp)), .inr (List.mem_append_right _ (by simp))⟩
end
end LF

namespace LF
section
variable {L : Type} [DecidableEq L] {A B : List (Row L)}
/-- states of two tables that go alike -/
def RR (A B : List (Row L)) (a b : Nat) : Prop := a < A.length ∧ b < B.length ∧ Alk A a B b
theorem rr_step (oA : TOk A) (oB : TOk B) {a b : Nat} {r r' : Row L} (h : RR A B a b) (hr : A[a]? = some r) (hr' : B[b]? = some r') : key1 r = key1 r' ∧ RR A B r.1 r'.1 ∧ RR A B r.2.2.1 r'.2.2.1 := by
  obtain ⟨ha, hb, al⟩ := h
  have pa := oA r (List.mem_of_getElem? hr)
  have pb := oB r' (List.mem_of_getElem? hr')
  have c0 : ∀ w, r.2.1 = r'.2.1 ∧ out A r.1 w = out B r'.1 w := fun w => by
    have := al (false :: w)
    rw [out_cons hr, out_cons hr'] at this
    have h1 := (List.cons.inj this).1
    have h2 := (List.cons.inj this).2
    exact ⟨by simpa using h1, by simpa using h2⟩
  have c1 : ∀ w, r.2.2.2 = r'.2.2.2 ∧ out A r.2.2.1 w = out B r'.2.2.1 w := fun w => by
    have := al (true :: w)
    rw [out_cons hr, out_cons hr'] at this
    have h1 := (List.cons.inj this).1
    have h2 := (List.cons.inj this).2
    exact ⟨by simpa using h1, by simpa using h2⟩
  exact ⟨by unfold key1; rw [(c0 []).1, (c1 []).1], ⟨pa.1, pb.1, fun w => (c0 w).2⟩, pa.2, pb.2, fun w => (c1 w).2⟩
theorem rr_l (sA : Apart A) {a a' b : Nat} (h : RR A B a b) (h' : RR A B a' b) : a = a' := sA a a' h.1 h'.1 fun w => (h.2.2 w).trans (h'.2.2 w).symm
theorem rr_r (sB : Apart B) {a b b' : Nat} (h : RR A B a b) (h' : RR A B a b') : b = b' := sB b b' h.2.1 h'.2.1 fun w => (h.2.2 w).symm.trans (h'.2.2 w)
theorem rr_mem (sA : Apart A) (sB : Apart B) {a b : Nat} {s s' : List Nat} (h : RR A B a b) (hs : F2 (RR A B) s s') : a ∈ s ↔ b ∈ s' := by
  constructor
  · intro m
    obtain ⟨c, hc, q⟩ := hs.left m
    rw [rr_r sB h q]
    exact hc
  · intro m
    obtain ⟨c, hc, q⟩ := hs.right m
    rw [rr_l sA h q]
    exact hc
theorem visit_sim (oA : TOk A) (oB : TOk B) (sA : Apart A) (sB : Apart B) : ∀ (f : Nat) {w w' s s' : List Nat}, F2 (RR A B) w w' → F2 (RR A B) s s' → F2 (RR A B) (visit A f w s) (visit B f w' s')
  | 0, _, _, _, _, _, hs => hs
  | f + 1, _, _, _, _, .nil, hs => hs
  | f + 1, x :: w, y :: w', s, s', .cons h hw, hs => by
    have e := rr_mem sA sB h hs
    by_cases hx : x ∈ s
    · rw [visit_old hx, visit_old (e.mp hx)]
      exact visit_sim oA oB sA sB f hw hs
    · have hr : A[x]? = some (A[x]'h.1) := List.getElem?_eq_getElem h.1
      have hr' : B[y]? = some (B[y]'h.2.1) := List.getElem?_eq_getElem h.2.1
      rw [visit_new hx hr, visit_new (fun z => hx (e.mpr z)) hr']
      obtain ⟨_, h1, h2⟩ := rr_step oA oB h hr hr'
      exact visit_sim oA oB sA sB f (hw.append (.cons h1 (.cons h2 .nil))) (hs.append (.cons h .nil))
theorem ix_sim (sA : Apart A) (sB : Apart B) {o o' : List Nat} (nd : o.Nodup) (nd' : o'.Nodup) (h : F2 (RR A B) o o') {a b : Nat} (r : RR A B a b) (hm : a ∈ o) : ix o a = ix o' b := by
  have hm' := (rr_mem sA sB r h).mp hm
  have g := get_ix hm
  have hl := ix_lt hm
  have g' : o'[ix o a]? = some (o'[ix o a]'(by rw [← h.len]; exact hl)) := List.getElem?_eq_getElem _
  have q := h.get g g'
  have e := rr_r sB r q
  rw [← e] at g'
  exact (ix_get nd' g').symm
/-- the visit of the merged table from these states -/
def ord (m : List (Row L)) (b : List Nat) : List Nat := visit m (b.length + 2 * m.length) b []
def laid (m : List (Row L)) (o : List Nat) : List (Row L) := o.filterMap fun s => m[s]?.map (renum (ix o))
/-- the least form -/
def lf (rows : List (Row L)) (starts : List Nat) : List (Row L) × List Nat :=
  (laid (mg rows) (ord (mg rows) (starts.map (at_ (cls rows)))), (starts.map (at_ (cls rows))).map (ix (ord (mg rows) (starts.map (at_ (cls rows))))))
theorem ord_end {m : List (Row L)} {b : List Nat} (ok : TOk m) (hb : ∀ x ∈ b, x < m.length) : VEnd m b [] (ord m b) :=
  visit_end _ ⟨ok, hb, (fun x hx => by cases hx), List.nodup_nil⟩ (by unfold need; simp)
theorem ord_sim (oA : TOk A) (oB : TOk B) (sA : Apart A) (sB : Apart B) {b b' : List Nat} (h : F2 (RR A B) b b') : F2 (RR A B) (ord A b) (ord B b') := by
  have hA : ∀ x ∈ b, x < A.length := fun x hx => let ⟨_, _, q⟩ := h.left hx; q.1
  have hB : ∀ x ∈ b', x < B.length := fun x hx => let ⟨_, _, q⟩ := h.right hx; q.2.1
  have e1 := visit_fuel (f := b.length + 2 * A.length) (w := b) (s := []) ⟨oA, hA, (fun x hx => by cases hx), List.nodup_nil⟩ (by unfold need; simp) (2 * B.length)
  have e2 := visit_fuel (f := b'.length + 2 * B.length) (w := b') (s := []) ⟨oB, hB, (fun x hx => by cases hx), List.nodup_nil⟩ (by unfold need; simp) (2 * A.length)
  unfold ord
  rw [← e1, ← e2, h.len, show b'.length + 2 * B.length + 2 * A.length = b'.length + 2 * A.length + 2 * B.length by omega]
  exact visit_sim oA oB sA sB _ h .nil
theorem laid_get {m : List (Row L)} (f : Nat → Nat) : ∀ {o : List Nat}, (∀ x ∈ o, x < m.length) → ∀ i : Nat, (o.filterMap fun s => m[s]?.map (renum f))[i]? = o[i]?.bind fun s => m[s]?.map (renum f)
  | [], _, i => by simp
  | a :: o, h, i => by
    have ha := h a List.mem_cons_self
    have e : m[a]? = some m[a] := List.getElem?_eq_getElem ha
    rw [List.filterMap_cons]
    simp only [e, Option.map_some]
    cases i with
    | zero => simp [e]
    | succ i =>
      rw [List.getElem?_cons_succ, List.getElem?_cons_succ]
      exact laid_get f (fun x hx => h x (List.mem_cons_of_mem _ hx)) i
theorem laid_len {m : List (Row L)} (f : Nat → Nat) : ∀ {o : List Nat}, (∀ x ∈ o, x < m.length) → (o.filterMap fun s => m[s]?.map (renum f)).length = o.length
  | [], _ => rfl
  | a :: o, h => by
    have ha := h a List.mem_cons_self
    have e : m[a]? = some m[a] := List.getElem?_eq_getElem ha
    rw [List.filterMap_cons]
    simp only [e, Option.map_some, List.length_cons]
    rw [laid_len f fun x hx => h x (List.mem_cons_of_mem _ hx)]
theorem b_lt {rows : List (Row L)} {starts : List Nat} (hs : ∀ s ∈ starts, s < rows.length) : ∀ x ∈ starts.map (at_ (cls rows)), x < (mg rows).length := by
  intro x hx
  obtain ⟨s, h, rfl⟩ := List.mem_map.mp hx
  exact cls_lt (hs s h)
/-- two tables that go alike from their starts have the same least form -/
theorem lf_canon {starts starts' : List Nat} (oA : TOk A) (oB : TOk B) (hA : ∀ s ∈ starts, s < A.length) (hB : ∀ s ∈ starts', s < B.length) (h : F2 (fun a b => Alk A a B b) starts starts') : lf A starts = lf B starts' := by
  have hb : F2 (RR (mg A) (mg B)) (starts.map (at_ (cls A))) (starts'.map (at_ (cls B))) := by
    refine F2.of (by rw [List.length_map, List.length_map, h.len]) fun i a b h1 h2 => ?_
    rw [List.getElem?_map, Option.map_eq_some_iff] at h1 h2
    obtain ⟨s, hs, rfl⟩ := h1
    obtain ⟨s', hs', rfl⟩ := h2
    have q := h.get hs hs'
    have ls := hA s (List.mem_of_getElem? hs)
    have ls' := hB s' (List.mem_of_getElem? hs')
    exact ⟨cls_lt ls, cls_lt ls', fun w => by rw [mg_out oA w ls, mg_out oB w ls']; exact q w⟩
  have mA := mg_ok oA
  have mB := mg_ok oB
  have pA := mg_apart oA
  have pB := mg_apart oB
  have eA := ord_end mA (b_lt hA)
  have eB := ord_end mB (b_lt hB)
  have ho := ord_sim mA mB pA pB hb
  have cA := eA.closed fun x hx => by cases hx
  have cB := eB.closed fun x hx => by cases hx
  unfold lf
  generalize starts.map (at_ (cls A)) = bA at hb eA ho cA
  generalize starts'.map (at_ (cls B)) = bB at hb eB ho cB
  have e1 : laid (mg A) (ord (mg A) bA) = laid (mg B) (ord (mg B) bB) := by
    refine List.ext_getElem? fun i => ?_
    unfold laid
    rw [laid_get _ eA.lt, laid_get _ eB.lt]
    cases hi : (ord (mg A) bA)[i]? with
    | none =>
      have : (ord (mg B) bB)[i]? = none := by
        rw [List.getElem?_eq_none_iff] at hi ⊢
        rw [← ho.len]; exact hi
      rw [this]
      rfl
    | some a =>
      have hl : i < (ord (mg B) bB).length := by rw [← ho.len]; exact (List.getElem?_eq_some_iff.mp hi).1
      have hi' := List.getElem?_eq_getElem hl
      have r := ho.get hi hi'
      rw [hi']
      have ma := List.mem_of_getElem? hi
      have mb := List.mem_of_getElem? hi'
      generalize (ord (mg B) bB)[i] = b at hi' r mb
      have ra : (mg A)[a]? = some ((mg A)[a]'r.1) := List.getElem?_eq_getElem r.1
      have rb : (mg B)[b]? = some ((mg B)[b]'r.2.1) := List.getElem?_eq_getElem r.2.1
      obtain ⟨k, q1, q2⟩ := rr_step mA mB r ra rb
      have ca := cA a ma _ ra
      simp only [Option.bind_some, ra, rb, Option.map_some]
      unfold renum
      rw [ix_sim pA pB eA.nd eB.nd ho q1 ca.1, ix_sim pA pB eA.nd eB.nd ho q2 ca.2, (Prod.mk.inj k).1, (Prod.mk.inj k).2]
  have e2 : bA.map (ix (ord (mg A) bA)) = bB.map (ix (ord (mg B) bB)) := by
    refine List.ext_getElem? fun i => ?_
    rw [List.getElem?_map, List.getElem?_map]
    cases hi : bA[i]? with
    | none =>
      have : bB[i]? = none := by
        rw [List.getElem?_eq_none_iff] at hi ⊢
        rw [← hb.len]; exact hi
      rw [this]
      rfl
    | some a =>
      have hl : i < bB.length := by rw [← hb.len]; exact (List.getElem?_eq_some_iff.mp hi).1
      have hi' := List.getElem?_eq_getElem hl
      have r := hb.get hi hi'
      rw [hi']
      show some _ = some _
      rw [ix_sim pA pB eA.nd eB.nd ho r (eA.all a (List.mem_of_getElem? hi))]
  rw [e1, e2]
variable {rows : List (Row L)} {starts : List Nat}
theorem laid_ok (ok : TOk rows) (hs : ∀ s ∈ starts, s < rows.length) : TOk (lf rows starts).1 := by
  have mA := mg_ok ok
  have eA := ord_end mA (b_lt hs)
  have cA := eA.closed fun x hx => by cases hx
  show TOk (laid _ _)
  generalize starts.map (at_ (cls rows)) = bA at eA cA
  have hl : (laid (mg rows) (ord (mg rows) bA)).length = (ord (mg rows) bA).length := laid_len _ eA.lt
  intro r hr
  rw [hl]
  obtain ⟨i, hi⟩ := List.getElem?_of_mem hr
  unfold laid at hi
  rw [laid_get _ eA.lt] at hi
  cases ho : (ord (mg rows) bA)[i]? with
  | none => rw [ho] at hi; cases hi
  | some a =>
    have ma := List.mem_of_getElem? ho
    have ra : (mg rows)[a]? = some ((mg rows)[a]'(eA.lt a ma)) := List.getElem?_eq_getElem _
    rw [ho] at hi
    simp only [Option.bind_some, ra, Option.map_some] at hi
    have : r = renum (ix (ord (mg rows) bA)) ((mg rows)[a]'(eA.lt a ma)) := (Option.some.inj hi).symm
    rw [this]
    have c := cA a ma _ ra
    exact ⟨ix_lt c.1, ix_lt c.2⟩
theorem lf_st (ok : TOk rows) (hs : ∀ s ∈ starts, s < rows.length) : ∀ s ∈ (lf rows starts).2, s < (lf rows starts).1.length := by
  have mA := mg_ok ok
  have eA := ord_end mA (b_lt hs)
  intro s h
  obtain ⟨x, hx, rfl⟩ := List.mem_map.mp h
  show ix _ x < (laid _ _).length
  unfold laid
  rw [laid_len _ eA.lt]
  exact ix_lt (eA.all x hx)
theorem lf_len : (lf rows starts).2.length = starts.length := by
  show (List.map _ (List.map _ starts)).length = _
  rw [List.length_map, List.length_map]
theorem lf_le (ok : TOk rows) (hs : ∀ s ∈ starts, s < rows.length) : (lf rows starts).1.length ≤ rows.length := by
  have eA := ord_end (mg_ok ok) (b_lt hs)
  show (laid _ _).length ≤ _
  unfold laid
  rw [laid_len _ eA.lt]
  exact Nat.le_trans (few _ eA.nd eA.lt) mg_le
theorem laid_out {m : List (Row L)} {b : List Nat} (mA : TOk m) (hb : ∀ x ∈ b, x < m.length) : ∀ (w : List Bool) {x : Nat}, x ∈ ord m b → out (laid m (ord m b)) (ix (ord m b) x) w = out m x w
  | [], x, _ => by simp [out]
  | c :: w, x, hx => by
    have eA := ord_end mA hb
    have cA := eA.closed fun x hx => by cases hx
    have rx : m[x]? = some (m[x]'(eA.lt x hx)) := List.getElem?_eq_getElem _
    have cx := cA x hx _ rx
    have lx : (laid m (ord m b))[ix (ord m b) x]? = some (renum (ix (ord m b)) (m[x]'(eA.lt x hx))) := by
      unfold laid
      rw [laid_get _ eA.lt, get_ix hx]
      simp only [Option.bind_some, rx, Option.map_some]
    rw [out_cons lx, out_cons rx]
    cases c
    · simp only [Bool.false_eq_true, if_false]
      show some _ :: out _ (ix _ _) w = _
      rw [laid_out mA hb w cx.1]
      rfl
    · simp only [if_true]
      show some _ :: out _ (ix _ _) w = _
      rw [laid_out mA hb w cx.2]
      rfl
/-- the least form goes as the table -/
theorem lf_alk (ok : TOk rows) (hs : ∀ s ∈ starts, s < rows.length) : F2 (fun a b => Alk (lf rows starts).1 a rows b) (lf rows starts).2 starts := by
  have mA := mg_ok ok
  have eA := ord_end mA (b_lt hs)
  refine F2.of lf_len fun i a b h1 h2 w => ?_
  have hb := hs b (List.mem_of_getElem? h2)
  have h1' : (lf rows starts).2[i]? = some (ix (ord (mg rows) (starts.map (at_ (cls rows)))) (at_ (cls rows) b)) := by
    show (List.map _ (List.map _ starts))[i]? = _
    rw [List.getElem?_map, List.getElem?_map, h2]
    rfl
  rw [h1] at h1'
  rw [Option.some.inj h1']
  show out (laid _ _) _ w = _
  rw [laid_out mA (b_lt hs) w (eA.all _ (List.mem_map_of_mem (List.mem_of_getElem? h2))), mg_out ok w hb]
/-- alike exactly if the least forms are the same -/
theorem lf_iff {starts' : List Nat} (oA : TOk A) (oB : TOk B) (hA : ∀ s ∈ starts, s < A.length) (hB : ∀ s ∈ starts', s < B.length) : lf A starts = lf B starts' ↔ F2 (fun a b => Alk A a B b) starts starts' := by
  refine ⟨fun e => ?_, lf_canon oA oB hA hB⟩
  have h1 := lf_alk oA hA
  have h2 := lf_alk oB hB
  rw [← e] at h2
  refine F2.of (h1.len.symm.trans h2.len) fun i a b ha hb w => ?_
  have hl : i < (lf A starts).2.length := by rw [lf_len]; exact (List.getElem?_eq_some_iff.mp ha).1
  have hx := List.getElem?_eq_getElem hl
  exact (h1.get hx ha w).symm.trans (h2.get hx hb w)
/-- the least form of a least form is that form -/
theorem lf_lf (ok : TOk rows) (hs : ∀ s ∈ starts, s < rows.length) : lf (lf rows starts).1 (lf rows starts).2 = lf rows starts :=
  lf_canon (laid_ok ok hs) ok (lf_st ok hs) hs (lf_alk ok hs)
end
end LF

set_option maxHeartbeats 4000000
namespace L2
open PySem PySem.Spec PyProof.Rows RZ
section
variable {X : Cx}
theorem call_len_dx : CallR X (.builtin "len") (fun xs H Q => ∃ d kvs, xs = [.ref d] ∧ H d = some (DX X.prog X.w d kvs) ∧ (∀ p ∈ kvs, KeyAt H p.2.1 p.1) ∧ Q (.int (kvs.length : Int)) H) := by
  intro pins s σ H xs us Q I r h
  obtain ⟨d, kvs, rfl, e, ka, q⟩ := h
  obtain ⟨u, rfl, ru⟩ := vals1 r
  cases ru
  obtain ⟨z, hd, xs, rel, dd⟩ := dx_of I.hok e ka
  have hl := Paired.length rel
  have hb : sizeLine < 2 ^ 63 := by decide
  refine PySem.call_len_dictH hd dd (by omega) ?_
  rw [← hl]
  exact ⟨.int _, H, I.tok _, ⟨_, rfl⟩, q⟩
end
end L2

set_option maxHeartbeats 4000000
namespace L2
open PySem PySem.Spec PyProof.Rows RZ
theorem newClass_enum (v : Value) : Builtin.SmallTypes.newClass "enumerate" { pos := [.type "enumerate", v] } = pure (.type "enumerate", [v]) := by
  unfold Builtin.SmallTypes.newClass
  show (isType (.type "enumerate") >>= _) = _
  simp [isType, sub_enumerate]
theorem meets_enum1 {v : Value} {o : Obj} {H : Heap → Prop} (b : Begins v o H) :
    Meets (Builtin.«enumerate.__new__» { pos := [.type "enumerate", v] }) fun A R s => H s.heap ∧ R (.ok (.ret (.ref (s.heap.push o).objs.size)))
      { heap := (s.heap.push o).push { cls := .type "enumerate", data := .fields #[.none, .bool false, .ref s.heap.objs.size, rawInt 0, .none, .none] }, gens := s.gens, drawn := s.drawn, toks := s.toks, os := s.os } := by
  refine Meets.of_wp ?_
  intro prog w A R s h
  unfold Builtin.«enumerate.__new__»
  rw [newClass_enum]
  refine wpAny_bind (wpAny_pure ?_)
  have fin : ∀ (Q : Fin → Shared → Prop) (E : Value → Shared → Prop), (Q (.done (.ret (.ref (s.heap.push o).objs.size))) { heap := (s.heap.push o).push { cls := .type "enumerate", data := .fields #[.none, .bool false, .ref s.heap.objs.size, rawInt 0, .none, .none] }, gens := s.gens, drawn := s.drawn, toks := s.toks, os := s.os }) →
      wpAny (model prog w) A.in1 (do
        let it ← pyIter v
        let r ← Builtin.SmallTypes.newRecord (.type "enumerate") (Builtin.SmallTypes.ownedTupleFields ++ [it, rawInt 0, .none, .none])
        ret r) Q E s := by
    intro Q E q
    refine wpAny_bind (b.iter _ _ _ _ _ _ h.1 ?_)
    refine wpAny_bind ?_
    unfold Builtin.SmallTypes.newRecord
    show wpAny _ _ (newObj (.type "enumerate") (.fields #[.none, .bool false, .ref s.heap.objs.size, rawInt 0, .none, .none])) _ _ _
    unfold newObj newObjAsIs
    dsimp only
    rw [if_neg (by show ¬ (6 > sizeLine + 2); decide)]
    refine wpAny_bind (wpAny_alloc' ?_)
    refine wpAny_pure ?_
    unfold ret
    refine wpAny_pure ?_
    exact q
  show wpAny _ _ (Builtin.SmallTypes.calledThroughType (.type "enumerate") >>= _) _ _ s
  refine wpAny_bind ?_
  unfold Builtin.SmallTypes.calledThroughType
  refine wpAny_bind (wpAny_stack_any fun st => ?_)
  refine wpAny_pure ?_
  dsimp only
  split <;> (try split) <;> (try dsimp only) <;> (refine wpAny_bind ?_; refine wpAny_pure ?_; exact fin (fun f s' => ∃ v, f = .done (.ret v) ∧ R (.ok (.ret v)) s') (fun e s' => R (.error e) s') ⟨_, rfl, h.2⟩)
theorem enum_begins1 {prog : Program} {w : World} {A : Around} {E : Value → Shared → Prop} {s : Shared} {v : Value} {o : Obj} {H : Heap → Prop} {Q : Value → Shared → Prop} (b : Begins v o H) (hH : H s.heap)
    (k : ∀ h' : Heap, IsEnum h' (s.heap.objs.size + 1) s.heap.objs.size 0 .none → h'.get? s.heap.objs.size = some o → h'.objs.size = s.heap.objs.size + 2 → (∀ (c : Addr) (o' : Obj), s.heap.get? c = some o' → h'.get? c = some o') →
      Q (.ref (s.heap.objs.size + 1)) { heap := h', gens := s.gens, drawn := s.drawn, toks := s.toks, os := s.os }) :
    wpAny (model prog w) A (call (.type "enumerate") [v]) Q E s := by
  refine callType_new PySem.F.called_enumerate (by decide) (PySem.F.typeCall_enumerate_1 _) (PySem.F.newCall_enumerate_1 _) (fun obj => PySem.F.args_object_init_2 _ _) PySem.F.entry_enumerate_new (meets_enum1 b) ⟨hH, ?_⟩
  have h1 : (s.heap.push o).objs.size = s.heap.objs.size + 1 := Heap.size_push _ _
  have g1 : ((s.heap.push o).push { cls := .type "enumerate", data := .fields #[.none, .bool false, .ref s.heap.objs.size, rawInt 0, .none, .none] }).get? (s.heap.push o).objs.size = some { cls := .type "enumerate", data := .fields #[.none, .bool false, .ref s.heap.objs.size, rawInt 0, .none, .none] } := Heap.get?_push_size _ rfl
  refine ⟨⟨_, g1, rfl⟩, ?_⟩
  rw [h1] at g1 ⊢
  refine k _ g1 (Heap.get?_push_of_some _ (Heap.get?_push_size _ b.free)) (by rw [Heap.size_push, h1]) fun c o' e => Heap.get?_push_of_some _ (Heap.get?_push_of_some _ e)
end L2

set_option maxHeartbeats 4000000
namespace L2
open PySem PySem.Spec PyProof.Rows RZ
/-- enumerate over a list or a tuple -/
def IteK (K : PySem.W.Frag) (k : Kind) (a : Addr) : It :=
  ⟨fun i H => ∃ xs x, Sk K k H a xs ∧ xs[i]? = some x,
    fun i H v H' => ∃ T x, v = .ref T ∧ H T = none ∧ H' = upd H T (.tup [.int (i : Int), x]) ∧ ∀ xs, Sk K k H a xs → xs[i]? = some x,
    fun i H => ∃ xs, Sk K k H a xs ∧ xs.length = i⟩
theorem walk_e {K : PySem.W.Frag} {k : Kind} {a : Addr} {xs : List V} : Walk (IteK K k a) xs.length (fun H => Sk K k H a xs) (YPair (fun i => some (V.int (i : Int))) (fun i => xs[i]?)) :=
  ⟨fun i H hi q => ⟨xs, xs[i], q, by simp [hi]⟩, fun H q => ⟨xs, q, rfl⟩, fun i H v H' hi q y => by
    obtain ⟨T, x, rfl, hT, rfl, f⟩ := y
    exact ⟨T, _, x, rfl, hT, rfl, rfl, f xs q⟩⟩
theorem turn_enumK {P : Program} {w : World} {K : PySem.W.Frag} {k : Kind} {elts : List Expr} {kk : Nat} {tpos : Pos} {a e it : Addr} (ne : e ≠ it) (na : a ≠ it) (nae : a ≠ e) :
    Turn P w K (.Tuple elts kk tpos) (IteK K k a) [e, it] e (fun i h => (∃ old, IsEnum h e it (i : Int) old) ∧ IterK k h it a i) where
  mem := List.mem_cons_self
  obj := fun i h st c hc => by
    obtain ⟨⟨old, g1⟩, g2⟩ := st
    simp only [List.mem_cons, List.not_mem_nil, or_false] at hc
    rcases hc with rfl | rfl
    · exact ⟨_, g1, fun v e => by cases e⟩
    · exact iterK_obj g2
  keep := fun i h h' st kp => by
    obtain ⟨⟨old, g1⟩, g2⟩ := st
    exact ⟨⟨old, kp e (by simp) _ g1⟩, iterK_at g2 fun o q => kp it (by simp) o q⟩
  item := by
    intro X eP ew eK calm i pins s σ H E I own st go
    subst eP ew eK
    obtain ⟨⟨old, g1⟩, g2⟩ := st
    obtain ⟨xs, x0, qx, lx0⟩ := go
    obtain ⟨us, ru, pu⟩ := seq_k I qx
    have hu := ru.length
    have lx : i < xs.length := (List.getElem?_eq_some_iff.mp lx0).1
    have elt : e < s.heap.objs.size := Heap.lt_size g1
    have D := draws_k (P := X.prog) (w := X.w) (A := X.A.in1) k (I.ok.hd calm) it a na us.toArray
    refine wpAny_pyNext_enum_itemD D g1 ⟨g2, pu⟩ (by simp; omega) ne (by simp [ne, Ne.symm nae]) fun x1 h' tk px out s1 nt hsz kp => ?_
    obtain ⟨v1, e1, r1⟩ : ∃ v1, xs[i]? = some v1 ∧ RelV v1 x1 := by
      obtain ⟨u, hu', ru'⟩ := ru.get lx0
      have : u = x1 := by
        have px' : us[i]? = some x1 := by simpa using px
        rw [hu'] at px'
        exact Option.some.inj px'
      exact ⟨_, lx0, this ▸ ru'⟩
    refine ⟨_, rfl, wpAny_letOwnedTupleGo_enum (s := { s with heap := h', toks := tk + 1 }) out fun g z'' sb => ?_⟩
    have nt2 : g.get? s.heap.objs.size = some { cls := .type "tuple", data := .seq #[.int (i : Int) tk, x1] } := (sb.2 _ (Nat.ne_of_gt elt)).trans nt
    have ob : ObjOk X.prog X.w (upd H s.heap.objs.size (.tup [.int (i : Int), v1])) g s.heap.objs.size (.tup [.int (i : Int), v1]) :=
      ⟨by show 2 ≤ sizeLine; decide, [.int (i : Int) tk, x1], .cons ⟨tk, rfl⟩ (.cons r1 .nil), _, nt2, rfl, _, rfl⟩
    have all : ∀ c o, ¬ c ∈ [e, it] → s.heap.get? c = some o → g.get? c = some o := fun c o hn q => by
      simp only [List.mem_cons, List.not_mem_nil, or_false, not_or] at hn
      exact (sb.2 c hn.1).trans (kp c o hn.1 hn.2 q)
    have J := I.turnedNew (t' := tk + 1) (ch := [e, it]) all own (Nat.le_refl _) ob
    refine ⟨.ref s.heap.objs.size, _, J, rfl, ⟨_, v1, rfl, I.hok.fresh (Nat.le_refl _), rfl, fun l hl => by rw [sk_inj I hl qx]; exact e1⟩, ⟨⟨_, z''⟩, ?_⟩, fun c hc => ?_⟩
    · exact iterK_at s1.1 fun o q => (sb.2 it ne.symm).trans q
    · have clt : c < s.heap.objs.size := by
        simp only [List.mem_cons, List.not_mem_nil, or_false] at hc
        rcases hc with rfl | rfl
        · exact elt
        · obtain ⟨_, q, _⟩ := iterK_obj g2; exact Heap.lt_size q
      rw [upd_ne (Nat.ne_of_lt clt)]
      exact (own c hc).1
  done := by
    intro X eP ew eK calm i pins s σ H E I own st go
    subst eP ew eK
    obtain ⟨⟨old, g1⟩, g2⟩ := st
    obtain ⟨xs, qx, lx⟩ := go
    obtain ⟨us, ru, pu⟩ := seq_k I qx
    have hu := ru.length
    have D := draws_k (P := X.prog) (w := X.w) (A := X.A.in1) k (I.ok.hd calm) it a na us.toArray
    have hi : i = us.toArray.size := by simp; omega
    rw [hi] at g1 g2
    refine wpAny_pyNext_enum_endD D g1 ⟨g2, pu⟩ fun h' kp => ⟨rfl, ?_⟩
    refine I.turnedL (t' := s.toks) (ch := [e, it]) (fun c o hn q => ?_) own
    simp only [List.mem_cons, List.not_mem_nil, or_false, not_or] at hn
    exact kp c o hn.2 q
  self := fun A i s Q E st h => by
    obtain ⟨⟨old, g1⟩, _⟩ := st
    exact wpAny_pyIter_enum g1 h
def iEnumK (K : PySem.W.Frag) (ta : TA) : TI := fun σ H R => ta σ H fun vs H1 => ∃ k a xs, vs = [.ref a] ∧ Sk K k H1 a xs ∧ R (IteK K k a) H1
theorem pi_enumK {X : Cx} {e : PySem.Expr} {ta : TA} {p pos tpos : Pos} {elts : List PySem.Expr} {kk : Nat} (hg : Gl X "enumerate") (hm : X.mg "enumerate" = none) (ha : PA X [e] ta)
    (hs : starEach [e] X.env = (false, eval e X.env) :: starEach [] X.env := by rfl) (hpl : (backTo pos (starEach [] X.env)).any (·.1) = false := by rfl) :
    PI X (.Tuple elts kk tpos) (.Call (.Name "enumerate" p) [e] [] pos) (iEnumK X.K ta) := by
  refine ⟨fun pins s σ H R I h => Call_ (ld_blt I hg hm PyProof.Rows.boot_enumerate (PyProof.Rows.callWith_type1 (thn (ha.run pos pins s σ H _ I h) fun us t q => ?_) hs hpl))⟩
  obtain ⟨vs, G, J, r1, k, a, xs, ev, qx, q⟩ := q
  subst ev
  cases r1 with
  | cons ra rr =>
    cases rr
    cases ra
    obtain ⟨us, ru, pu⟩ := seq_k J qx
    have la := seqK_lt pu
    refine enum_begins1 (begins_k k a us.toArray) pu fun h' g1 g2 hsz kp => wpAny_pyIter_enum g1 ?_
    generalize hN : t.heap.objs.size = N at la g1 g2
    have J2 : Inv X pins σ G { t with heap := h' } := J.kept (t' := t.toks) kp
    refine ⟨N + 1, [N + 1, N], _, _, G, rfl, J2, turn_enumK (k := k) (a := a) (Nat.succ_ne_self N) (Nat.ne_of_lt la) (Nat.ne_of_lt (Nat.lt_succ_of_lt la)), ⟨⟨_, g1⟩, iter_0 g2⟩, fun c hc => ?_, q⟩
    have le : t.heap.objs.size ≤ c := by
      rw [hN]
      simp only [List.mem_cons, List.not_mem_nil, or_false] at hc
      rcases hc with h1 | h1 <;> rw [h1]
      · exact Nat.le_succ N
      · exact Nat.le_refl N
    exact J.fpOk le (J.hok.fresh le)
end L2

set_option maxHeartbeats 8000000
namespace PA
open PySem L2 RZ
open C8 (pss_cut tCut)
abbrev sLeastF : Stmt := top 4
abbrev sClasses : Stmt := top 5
abbrev sSplit : Stmt := top 6
abbrev sNumbered : Stmt := top 7
abbrev sMerged : Stmt := top 8
abbrev sRenum : Stmt := top 9
abbrev sVisit : Stmt := top 10
theorem u1 {a : Nat} (h : a + 64 < cLine) : a + 1 < cLine := Nat.lt_of_le_of_lt (Nat.add_le_add_left (by decide) a) h
/-- the numbers of some keys, as entries -/
def tab {κ κ' : Type} (f : κ → κ') (n : Nat) (u : List κ) : List (κ' × V) := (u.zipIdx n).map fun x => (f x.1, V.int (x.2 : Int))
section
variable {κ κ' : Type} [DecidableEq κ] [DecidableEq κ'] {f : κ → κ'}
theorem tab_val (inj : ∀ a b, f a = f b → a = b) (k : κ) : ∀ (u : List κ) (n : Nat), valV (tab f n u) (f k) = if k ∈ u then some (V.int ((n + LF.ix u k : Nat) : Int)) else none
  | [], n => by rfl
  | a :: u, n => by
    have ih := tab_val inj k u (n + 1)
    unfold tab at ih ⊢
    rw [List.zipIdx_cons, List.map_cons]
    unfold valV at ih ⊢
    rw [List.find?_cons]
    by_cases e : a = k
    · subst e
      simp [LF.ix]
    · have e' : ¬ f a = f k := fun z => e (inj _ _ z)
      rw [decide_eq_false e']
      rw [ih]
      have em : (k ∈ a :: u) ↔ k ∈ u := by simp [Ne.symm e]
      by_cases hk : k ∈ u
      · rw [if_pos hk, if_pos (em.mpr hk)]
        have ei : LF.ix (a :: u) k = LF.ix u k + 1 := by
          show (if a = k then 0 else LF.ix u k + 1) = _
          rw [if_neg e]
        rw [ei, show n + 1 + LF.ix u k = n + (LF.ix u k + 1) from by omega]
      · rw [if_neg hk, if_neg (fun z => hk (em.mp z))]
theorem tab_len (u : List κ) (n : Nat) : (tab f n u).length = u.length := by unfold tab; simp
theorem tab_snoc (u : List κ) (n : Nat) (k : κ) : tab f n (u ++ [k]) = tab f n u ++ [(f k, V.int ((n + u.length : Nat) : Int))] := by
  unfold tab
  rw [List.zipIdx_append, List.map_append]
  simp [Nat.add_comm]
end
def rIxDP (P : Program) (w : World) : R2 := fun x y H Q => ∃ d b ps k v, x = .ref d ∧ y = .ref b ∧ DxAt P w H d ps ∧ KeyAt H b k ∧ valV ps k = some v ∧ Q v H
theorem ix_dxP {X : Cx} {P : Program} {w : World} (h1 : X.prog = P) (h2 : X.w = w) (hu : X.A.units + 1 < cLine) : IxR X (rIxDP P w) := by
  subst h1 h2
  exact ix_dx hu
def natsV (ns : List Nat) : List V := ns.map fun (n : Nat) => V.int ((n : Nat) : Int)
def spNumbered {κ : Type} [DecidableEq κ] (f : κ → LKey) : Sp := fun vs H Q _ => ∃ (L : Addr) (refs : List V) (ks : List κ), vs = [.ref L] ∧ H L = some (.lst refs) ∧ Ea H (fun H c k => KeyAt H c (f k)) refs ks ∧ ks.length ≤ 3000 ∧
  ∀ p H', H' p = some (.lst (natsV (LF.numb ks))) → H p = none → Same H H' → Q (.ref p) H'
section
variable {P : Program} {w : World} {K : PySem.W.Frag} {mg : Str → Option Value} {base : Heap} {C : Addr}
theorem scNumbered : FnScope ["keys", "numbers", "key"] ["keys"] (defScope sNumbered) := ⟨rfl, rfl, rfl, by decide +kernel, rfl, by decide +kernel, by decide +kernel⟩
theorem ok_numbered {κ : Type} [DecidableEq κ] {fk : κ → LKey} (inj : ∀ a b, fk a = fk b → a = b) {f : Addr} {fd : FuncData} (F : Fun K "_numbered" "_numbered" sNumbered f fd) (T : Txt K mg C) : FnOk P w K mg base CX0 1 f fd ["keys"] (spNumbered fk) := by
  refine F.ok scNumbered (fun vs H Q E h => ?_) (fun cdv A outer s H vs Q E hr h => ?_)
  · obtain ⟨L, _, _, rfl, _⟩ := h
    rfl
  · obtain ⟨L, refs, ks, rfl, hL, hE, hk, kk⟩ := h
    have hu := u1 hr.units
    have hlr : refs.length = ks.length := hE.1
    refine ⟨_, pss_cons (ps_set (i := 1) scNumbered.nd rfl (Or.inr rfl) pe_dnewX)
      (pss_cut (ps_for PassesOwn.never rfl (pi_list (pv 0)) (pg_name (i := 2) scNumbered.nd rfl (Or.inl rfl))
        (pss_one (ps_if (pt_cmpR (op_notIn_dx hu) (pv 2) (pv 1) rfl) (pss_one (ps_asg (pe_callB call_len_dx (by rfl) T.len_ PySem.boot_len (pa_cons (pv 1) pa_nil)) (pg_sub (pv 1) (pv 2) (set_dx hu)))) pss_nil)))
      (pss_one (ps_ret (pe_lc (own := [("key", 2)]) (g := gName 2) (tt := tYes) (by rfl) scNumbered.nd (pi_list (pv 0)) (blkOk_by (N := ["keys", "numbers", "key"]) (sc := defScope sNumbered) (by decide +kernel))
          (fun _ _ _ _ _ => pg_name (i := 2) scNumbered.nd rfl (Or.inl rfl)) (fun _ _ _ _ _ => pts_nil)
          (fun _ _ _ _ _ => pe_ix (ix_dxP (P := P) (w := w) rfl rfl hu) (pv 1) (pv 2) (fun _ _ => rfl)))))), ?_⟩
    refine fun d hd => ?_
    have sd := Same.new (o := DX P w d []) hd
    refine ⟨fun σ' H' => ∃ x2 kvs, σ' = [some (.ref L), some (.ref d), x2] ∧ Same H H' ∧ H' d = some (DX P w d kvs) ∧ (∀ p ∈ kvs, KeyAt H' p.2.1 p.1) ∧ kvs.map (fun p => (p.1, p.2.2)) = tab fk 0 (LF.uniq ks), ?_, ?_⟩
    · refine ⟨_, rfl, L, rfl, ⟨_, SqL.of (sd _ _ hL)⟩, ?_⟩
      refine for_list (K := K) (a := L) (xs := refs) (fun i σ' H' => ∃ x2 kvs, σ' = [some (.ref L), some (.ref d), x2] ∧ Same H H' ∧ H' d = some (DX P w d kvs) ∧ (∀ p ∈ kvs, KeyAt H' p.2.1 p.1) ∧ kvs.map (fun p => (p.1, p.2.2)) = tab fk 0 (LF.uniq (ks.take i))) ?_ ?_ ?_ ?_
      · exact ⟨none, [], rfl, sd, upd_same, fun p hp => (List.not_mem_nil hp).elim, rfl⟩
      · rintro i σ' H' _ ⟨_, _, _, s', _⟩
        exact SqL.of (s' _ _ hL)
      · rintro i x _ H' hx ⟨x2, kvs, rfl, s', hd', ka, em⟩
        obtain ⟨c, k, rfl, hk', hc⟩ := hE.at_ hx
        have hcS : KeyAt H' c (fk k) := hc.kt fun b ys e => s' _ _ e
        have hval := tab_val (f := fk) inj k (LF.uniq (ks.take i)) 0
        have hn : LF.uniq (ks.take (i + 1)) = LF.push (LF.uniq (ks.take i)) k := by rw [L2.take_succ' hk', LF.uniq_snoc]
        refine ⟨_, rfl, _, rfl, d, c, _, fk k, rfl, rfl, ⟨kvs, hd', em, ka⟩, hcS, _, rfl, ?_⟩
        rw [hval]
        by_cases hm : k ∈ LF.uniq (ks.take i)
        · rw [if_pos hm]
          refine iteF ⟨_, kvs, rfl, s', hd', ka, ?_⟩
          rw [hn, LF.push, if_pos hm]
          exact em
        · rw [if_neg hm] at hval ⊢
          refine iteT ?_
          have hlk : kvs.length = (LF.uniq (ks.take i)).length := by
            have := congrArg List.length em
            rw [List.length_map, tab_len] at this
            exact this
          have hle : (LF.uniq (ks.take i)).length ≤ 3000 := Nat.le_trans (LF.uniq_len _) (by rw [List.length_take]; omega)
          refine ⟨_, rfl, d, kvs, rfl, hd', ka, _, rfl, _, rfl, d, c, kvs, fk k, rfl, rfl, hd', ka, hcS, by rw [em, hval], Nat.lt_of_le_of_lt (by omega : kvs.length ≤ 3000) (by decide), ?_⟩
          have dk : ∀ b ys, H' b = some (.tup ys) → b ≠ d := fun b ys e => ne_of e hd' (by intro z; cases z)
          refine ⟨_, kvs ++ [(fk k, c, .int (kvs.length : Int))], rfl, fun b o e => ?_, upd_same, fun p hp => ?_, ?_⟩
          · rw [upd_ne (ne_of_none e hd)]
            exact s' _ _ e
          · have up : ∀ b k', KeyAt H' b k' → KeyAt (upd H' d (DX P w d (kvs ++ [(fk k, c, .int (kvs.length : Int))]))) b k' := fun b k' q => q.kt fun b' ys e => by rw [upd_ne (dk b' ys e)]; exact e
            rcases List.mem_append.mp hp with hp | hp
            · exact up _ _ (ka p hp)
            · cases List.mem_singleton.mp hp
              exact up _ _ hcS
          · rw [hn, LF.push, if_neg hm, tab_snoc, List.map_append, em, hlk]
            simp
      · rintro σ' H' ⟨x2, kvs, rfl, s', hd', ka, em⟩
        rw [hlr, List.take_length] at em
        exact ⟨x2, kvs, rfl, s', hd', ka, em⟩
    rintro _ H1 ⟨x2, kvs, rfl, s1, hd1, ka, em⟩
    refine ⟨_, rfl, L, rfl, ⟨_, SqL.of (s1 _ _ hL)⟩, fun Dd hD => ?_⟩
    refine lc_same (xs := refs) (walk_l (K := K) (a := L) (xs := refs)) (by rw [hlr]; exact Nat.le_trans hk (by decide)) hD (fun H' s' => SqL.of (s' _ _ (s1 _ _ hL))) (natsV (LF.numb ks)) (by unfold natsV; rw [List.length_map, LF.numb_len, hlr]) (fun i x y H' Φ Ψ hx hy sm kf => ?_) fun H2 s2 hd2 => ?_
    · obtain ⟨c, k, rfl, hk', hc⟩ := hE.at_ hx
      have hyv : y = V.int ((LF.ix (LF.uniq ks) k : Nat) : Int) := by
        unfold natsV at hy
        rw [List.getElem?_map, LF.numb_get hk'] at hy
        injection hy with hy
        exact hy.symm
      have hmk : k ∈ LF.uniq ks := LF.uniq_mem.mpr (List.mem_of_getElem? hk')
      have hval := tab_val (f := fk) inj k (LF.uniq ks) 0
      rw [if_pos hmk, Nat.zero_add] at hval
      refine ⟨rfl, ?_⟩
      dsimp only [tYes]
      rw [if_pos rfl]
      refine ⟨_, rfl, _, rfl, d, c, _, fk k, y, rfl, rfl, ⟨kvs, sm _ _ hd1, em, fun p hp => (ka p hp).kt fun b ys e => sm _ _ e⟩, hc.kt fun b ys e => sm _ _ (s1 _ _ e), by rw [hval, hyv], kf H' fun _ _ e => e⟩
    · exact kk Dd H2 hd2 (L2.Same.none s1 hD) (s1.trans s2)
end
end PA

set_option maxHeartbeats 8000000
namespace L2
open PySem PySem.Spec PyProof.Rows
section
variable {J : It} {n : Nat} {G : Hp → Prop} {f1 f2 : Nat → Option V} {g : TG} {tt : TT} {te : TE} {vs : List Nat} {σ : L2.St} {H1 : Hp} {D : Addr} {Qd : Hp → Prop}
/-- as lc_acc, over pairs -/
theorem lc_accP (w : Walk J n G (YPair f1 f2)) (hn : n ≤ sizeLine) (hD : H1 D = none) (hG : ∀ H, Same H1 H → G H) (A : Nat → List V → Hp → Prop) (hl : ∀ i acc H, A i acc H → acc.length ≤ i) (A0 : A 0 [] (upd H1 D (.lst [])))
    (hs : ∀ (i : Nat) (a b : V) (T : Addr) (H : Hp) (acc : List V) (Φ : V → Hp → Prop) (Ψ : Hp → Prop), i < n → f1 i = some a → f2 i = some b → Same H1 H → H D = some (.lst acc) → A i acc H → H T = none →
      (∀ y H4, Same (upd H T (.tup [a, b])) H4 → (∀ H5, But D H4 H5 → A (i + 1) (acc ++ [y]) H5) → Φ y H4) →
      g (.ref T) (wipe σ vs) (upd H T (.tup [a, b])) fun σ2 H2 => wipe σ2 vs = wipe σ vs ∧ tt σ2 H2 fun b H3 => if b = true then te σ2 H3 Φ else Ψ H3)
    (hd : ∀ H acc, Same H1 H → H D = some (.lst acc) → A n acc H → Qd H) :
    ∃ W : Nat → Nat → Hp → Prop, (∃ m, W 0 m (upd H1 D (.lst []))) ∧ ∀ i m H, W i m H →
      (J.stop i H ∧ Qd H) ∨ (J.go i H ∧ ∃ Nx : Hp → Prop, (∀ H', Nx H' → ∃ m', m' < m ∧ W (i + 1) m' H') ∧ ∀ x H', J.yld i H x H' → g x (wipe σ vs) H' fun σ2 H2 => wipe σ2 vs = wipe σ vs ∧ tt σ2 H2 fun b H3 =>
        if b = true then te σ2 H3 fun y H4 => ∃ acc, H4 D = some (.lst acc) ∧ acc.length < sizeLine ∧ Nx (upd H4 D (.lst (acc ++ [y]))) else Nx H3) := by
  refine lc_it w (fun i H => Same H1 H ∧ ∃ acc, H D = some (.lst acc) ∧ A i acc H) ⟨new_ hD, [], upd_same, A0⟩ (fun i H _ p => hG H p.1) (fun i x H H' hi p y => ?_) fun H p => ?_
  · obtain ⟨T, a, b, rfl, hT, rfl, h1, h2⟩ := y
    obtain ⟨sm, acc, hd', ha⟩ := p
    have sT := new_ (o := .tup [a, b]) hT
    refine hs i a b T _ acc _ _ hi h1 h2 sm hd' ha hT fun y H4 s4 k => ⟨acc, s4 _ _ (sT _ _ hd'), Nat.lt_of_lt_of_le (Nat.lt_of_le_of_lt (hl _ _ _ ha) hi) hn, fun c o e => ?_, acc ++ [y], upd_same, k _ fun c o cd e => ?_⟩
    · rw [upd_ne (ne_of_none e hD)]
      exact s4 _ _ (sT _ _ (sm _ _ e))
    · rw [upd_ne cd]
      exact e
  · obtain ⟨sm, acc, hd', ha⟩ := p
    exact hd H acc sm hd' ha
end
end L2
namespace PA
open PySem L2 RZ
open C8 (pss_cut tCut)
def rIxLK (K : PySem.W.Frag) : R2 := fun x y H Q => ∃ p xs i v, x = .ref p ∧ y = .int i ∧ SqL K H p xs ∧ atI xs i = some v ∧ Q v H
theorem ix_listK {X : Cx} {K : PySem.W.Frag} (h : X.K = K) : IxR X (rIxLK K) := h ▸ ix_list
abbrev Rn := LF.Row Bool
def rz (r : Rn) : Rw := ((r.1 : Int), r.2.1, (r.2.2.1 : Int), r.2.2.2)
abbrev isR : Hp → Addr → Rn → Prop := fun H c r => isT H c (rz r)
def lk2 (k : Bool × Bool) : LKey := [.num (if k.1 = true then 1 else 0), .num (if k.2 = true then 1 else 0)]
def lk3 (k : Nat × Nat × Nat) : LKey := [.num (k.1 : Int), .num (k.2.1 : Int), .num (k.2.2 : Int)]
theorem lk2_inj (a b : Bool × Bool) (h : lk2 a = lk2 b) : a = b := by
  obtain ⟨a1, a2⟩ := a
  obtain ⟨b1, b2⟩ := b
  revert h
  cases a1 <;> cases a2 <;> cases b1 <;> cases b2 <;> decide
theorem lk3_inj (a b : Nat × Nat × Nat) (h : lk3 a = lk3 b) : a = b := by
  obtain ⟨a1, a2, a3⟩ := a
  obtain ⟨b1, b2, b3⟩ := b
  unfold lk3 at h
  simp only [List.cons.injEq, Leaf.num.injEq, and_true] at h
  obtain ⟨h1, h2, h3⟩ := h
  have e1 : a1 = b1 := by omega
  have e2 : a2 = b2 := by omega
  have e3 : a3 = b3 := by omega
  rw [e1, e2, e3]
theorem nat_at {cs : List Nat} {i : Nat} (h : i < cs.length) : atI (natsV cs) (i : Int) = some (V.int ((LF.at_ cs i : Nat) : Int)) := by
  refine atI_nat ?_
  unfold natsV
  rw [List.getElem?_map, LF.get_of_lt h]
  rfl
def spSplit (K : PySem.W.Frag) : Sp := fun vs H Q _ => ∃ (R L : Addr) (k : L2.Kind) (refs : List V) (rows : List Rn) (cs : List Nat), vs = [.ref R, .ref L] ∧ Sk K k H R refs ∧ Ea H isR refs rows ∧ H L = some (.lst (natsV cs)) ∧ cs.length = rows.length ∧ LF.TOk rows ∧ rows.length ≤ 3000 ∧
  ∀ p H', H' p = some (.lst (natsV (LF.split rows cs))) → H p = none → Same H H' → Q (.ref p) H'
section
variable {P : Program} {w : World} {K : PySem.W.Frag} {mg : Str → Option Value} {base : Heap} {C : Addr}
theorem scSplit : FnScope ["rows", "classes", "state", "row"] ["rows", "classes"] (defScope sSplit) := ⟨rfl, rfl, rfl, by decide +kernel, rfl, by decide +kernel, by decide +kernel⟩
theorem ok_split {f g : Addr} {fd gd : FuncData} (F : Fun K "_split" "_split" sSplit f fd) (T : Txt K mg C) (hen : mg "enumerate" = none) (D : Df K mg "_numbered" sNumbered g gd ["keys"]) : FnOk P w K mg base CX0 2 f fd ["rows", "classes"] (spSplit K) := by
  have G : FnOk P w K mg base CX0 1 g gd ["keys"] (spNumbered lk3) := ok_numbered lk3_inj D.F T
  refine F.ok scSplit (fun vs H Q E h => ?_) (fun cdv A outer s H vs Q E hr h => ?_)
  · obtain ⟨R, L, _, _, _, _, rfl, _⟩ := h
    rfl
  · obtain ⟨R, L, k, refs, rows, cs, rfl, hR, hE, hL, hcs, ok, hsz, kk⟩ := h
    have hlr : refs.length = rows.length := hE.1
    refine ⟨_, pss_one (ps_ret (pe_call G hr rfl D.M D.F.kp D.B .nil pass0 (pa_cons (pe_lc (own := [("state", 2), ("row", 3)]) (g := gTup K 2 (gCons (gName 2) (gCons (gName 3) gNil))) (tt := tYes) (by rfl) scSplit.nd (pi_enumK (by rfl) hen (pa_cons (pv 0) pa_nil)) (blkOk_by (N := ["rows", "classes", "state", "row"]) (sc := defScope sSplit) (by decide +kernel))
          (fun _ _ _ _ _ => by exact pg_tup rfl (pgs_cons (pg_name (i := 2) scSplit.nd rfl (Or.inl rfl)) (pgs_cons (pg_name (i := 3) scSplit.nd rfl (Or.inl rfl)) pgs_nil))) (fun _ _ _ _ _ => pts_nil)
          (fun _ _ _ _ _ => pe_tup (pa_cons (pe_ix (ix_listK (K := K) rfl) (pv 1) (pv 2) (fun _ _ => rfl)) (pa_cons (pe_ix (ix_listK (K := K) rfl) (pv 1) (pe_ix (ix_tupK (K := K) rfl) (pv 3) pe_int (fun _ _ => rfl)) (fun _ _ => rfl)) (pa_cons (pe_ix (ix_listK (K := K) rfl) (pv 1) (pe_ix (ix_tupK (K := K) rfl) (pv 3) pe_int (fun _ _ => rfl)) (fun _ _ => rfl)) pa_nil))))) pa_nil))), ?_⟩
    refine ⟨_, rfl, k, R, refs, rfl, hR, fun Dd hD => ?_⟩
    refine lc_accP (walk_e (K := K) (k := k) (a := R) (xs := refs)) (by rw [hlr]; exact Nat.le_trans hsz (by decide)) hD (fun H' s' => hR.up s') (fun i acc H' => Ea H' (fun H c k => KeyAt H c (lk3 k)) acc ((rows.zipIdx.map (LF.key2 cs)).take i)) (fun i acc H' e => by rw [e.1, List.length_take]; omega) (by rw [List.take_zero]; exact Ea.nil) (fun i x y t H' acc Φ Ψ hi hx hy sm hd he ht kf => ?_) fun H1 acc s1 hd he => ?_
    · cases hx
      obtain ⟨c, r, rfl, hr', hc⟩ := hE.at_ hy
      have st := Same.new (o := .tup [.int (i : Int), .ref c]) ht
      have hL' := st _ _ (sm _ _ hL)
      have hc' : isT (upd H' t (.tup [.int (i : Int), .ref c])) c (rz r) := st _ _ (sm _ _ hc)
      obtain ⟨o1, o2⟩ := ok r (List.mem_of_getElem? hr')
      refine ⟨t, _, rfl, SqT.of upd_same, rfl, _, _, rfl, _, _, rfl, rfl, rfl, ?_⟩
      dsimp only [tYes]
      rw [if_pos rfl]
      refine ⟨_, rfl, _, rfl, L, _, _, _, rfl, rfl, SqL.of hL', nat_at (by rw [hcs, ← hlr]; exact hi), _, rfl, _, rfl, c, _, 0, _, rfl, rfl, SqT.of hc', rfl, L, _, _, _, rfl, rfl, SqL.of hL', nat_at (by rw [hcs]; exact o1), _, rfl, _, rfl, c, _, 2, _, rfl, rfl, SqT.of hc', rfl, L, _, _, _, rfl, rfl, SqL.of hL', nat_at (by rw [hcs]; exact o2), by show 3 ≤ sizeLine; decide, fun u hu => ?_⟩
      have su := Same.new (o := .tup [.int ((LF.at_ cs i : Nat) : Int), .int ((LF.at_ cs r.1 : Nat) : Int), .int ((LF.at_ cs r.2.2.1 : Nat) : Int)]) hu
      refine kf _ _ su fun H5 b5 => ?_
      have hz : (rows.zipIdx.map (LF.key2 cs))[i]? = some (LF.key2 cs (r, i)) := by rw [List.getElem?_map, LF.zip_get hr']; rfl
      rw [L2.take_succ' hz]
      have hdd : ∀ b ys, (upd (upd H' t (.tup [.int (i : Int), .ref c])) u (.tup [.int ((LF.at_ cs i : Nat) : Int), .int ((LF.at_ cs r.1 : Nat) : Int), .int ((LF.at_ cs r.2.2.1 : Nat) : Int)])) b = some (.tup ys) → b ≠ Dd := fun b ys e => ne_of e (su _ _ (st _ _ hd)) (by intro z; cases z)
      refine Ea.push (he.imp fun c' k' q => q.kt fun b ys e => ?_) ⟨_, b5 _ _ (hdd _ _ upd_same) upd_same, .cons (.inl rfl) (.cons (.inl rfl) (.cons (.inl rfl) .nil))⟩
      have e' := su _ _ (st _ _ e)
      exact b5 _ _ (hdd _ _ e') e'
    · have hl2 : refs.length = (rows.zipIdx.map (LF.key2 cs)).length := by simp [hlr]
      rw [hl2, List.take_length] at he
      exact ⟨Dd, acc, _, rfl, hd, he, by simp; exact hsz, fun p H' hp hn s' => kk p H' hp (L2.Same.none s1 hn) (s1.trans s')⟩
end
end PA

set_option maxHeartbeats 8000000
namespace PA
open PySem L2 RZ
open C8 (pss_cut tCut)
theorem ints_eqv : ∀ ns ms : List Int, PyData.eqv (.list (ns.map PyData.int)) (.list (ms.map PyData.int)) = decide (ns = ms)
  | [], [] => by simp [PyData.eqv, PyData.eqvAll]
  | [], m :: ms => by simp [PyData.eqv, PyData.eqvAll]
  | n :: ns, [] => by simp [PyData.eqv, PyData.eqvAll]
  | n :: ns, m :: ms => by
    have ih := ints_eqv ns ms
    simp only [PyData.eqv] at ih
    simp only [List.map_cons, PyData.eqv, PyData.eqvAll]
    rw [ih]
    by_cases e : n = m
    · subst e
      by_cases e2 : ns = ms
      · subst e2; simp
      · simp [e2]
    · simp [e]
theorem natsV_ints (ns : List Nat) : natsV ns = (ns.map fun (n : Nat) => ((n : Nat) : Int)).map V.int := by
  unfold natsV
  rw [List.map_map]
  rfl
theorem nats_inj {ns ms : List Nat} : (ns.map fun (n : Nat) => ((n : Nat) : Int)) = (ms.map fun (n : Nat) => ((n : Nat) : Int)) ↔ ns = ms := by
  exact List.map_inj_right (fun a b e => Int.ofNat.inj e)
def spClasses (K : PySem.W.Frag) : Sp := fun vs H Q _ => ∃ (R : Addr) (k : L2.Kind) (refs : List V) (rows : List Rn), vs = [.ref R] ∧ Sk K k H R refs ∧ Ea H isR refs rows ∧ LF.TOk rows ∧ rows.length ≤ 3000 ∧
  ∀ p H', H' p = some (.lst (natsV (LF.cls rows))) → H p = none → Same H H' → Q (.ref p) H'
section
variable {P : Program} {w : World} {K : PySem.W.Frag} {mg : Str → Option Value} {base : Heap} {C : Addr}
theorem scClasses : FnScope ["rows", "classes", "finer", "row"] ["rows"] (defScope sClasses) := ⟨rfl, rfl, rfl, by decide +kernel, rfl, by decide +kernel, by decide +kernel⟩
theorem ok_classes {f g g2 : Addr} {fd gd gd2 : FuncData} (F : Fun K "_classes" "_classes" sClasses f fd) (T : Txt K mg C) (hen : mg "enumerate" = none) (D : Df K mg "_numbered" sNumbered g gd ["keys"]) (D2 : Df K mg "_split" sSplit g2 gd2 ["rows", "classes"]) : FnOk P w K mg base CX0 3 f fd ["rows"] (spClasses K) := by
  have G : FnOk P w K mg base CX0 1 g gd ["keys"] (spNumbered lk2) := ok_numbered lk2_inj D.F T
  have G2 : FnOk P w K mg base CX0 2 g2 gd2 ["rows", "classes"] (spSplit K) := ok_split D2.F T hen D
  refine F.ok scClasses (fun vs H Q E h => ?_) (fun cdv A outer s H vs Q E hr h => ?_)
  · obtain ⟨R, _, _, _, rfl, _⟩ := h
    rfl
  · obtain ⟨R, k, refs, rows, rfl, hR, hE, ok, hsz, kk⟩ := h
    have hr1 : Room 1 _ := hr.mono (by decide)
    have hlr : refs.length = rows.length := hE.1
    refine ⟨_, pss_cons (ps_set (i := 1) scClasses.nd rfl (Or.inl rfl) (pe_call G hr1 rfl D.M D.F.kp D.B .nil pass0 (pa_cons (pe_lc (own := [("row", 3)]) (g := gName 3) (tt := tYes) (by rfl) scClasses.nd (pi_sq (pv 0)) (blkOk_by (N := ["rows", "classes", "finer", "row"]) (sc := defScope sClasses) (by decide +kernel))
          (fun _ _ _ _ _ => pg_name (i := 3) scClasses.nd rfl (Or.inl rfl)) (fun _ _ _ _ _ => pts_nil)
          (fun _ _ _ _ _ => pe_tup (pa_cons (pe_ix (ix_tupK (K := K) rfl) (pv 3) pe_int (fun _ _ => rfl)) (pa_cons (pe_ix (ix_tupK (K := K) rfl) (pv 3) pe_int (fun _ _ => rfl)) pa_nil)))) pa_nil)))
      (pss_cons (ps_set (i := 2) scClasses.nd rfl (Or.inl rfl) (pe_call G2 hr rfl D2.M D2.F.kp D2.B .nil pass0 (pa_cons (pv 0) (pa_cons (pv 1) pa_nil))))
      (pss_cons (ps_while PassesOwn.never (pt_cmpR (op_neD hr.units) (pv 2) (pv 1) (nomark _))
        (pss_cons (ps_set (i := 1) scClasses.nd rfl (Or.inl rfl) (pv 2)) (pss_one (ps_set (i := 2) scClasses.nd rfl (Or.inl rfl) (pe_call G2 hr rfl D2.M D2.F.kp D2.B .nil pass0 (pa_cons (pv 0) (pa_cons (pv 1) pa_nil)))))))
      (pss_one (ps_ret (pv 1))))), ?_⟩
    refine ⟨k, _, rfl, R, rfl, ⟨_, hR⟩, fun Dd hD => ?_⟩
    refine lc_acc (xs := refs) (walk_k (k := k)) (by rw [hlr]; exact Nat.le_trans hsz (by decide)) hD (fun H' s' => hR.up s') (fun i acc H' => Ea H' (fun H c k => KeyAt H c (lk2 k)) acc ((rows.map LF.key1).take i)) (fun i acc H' e => by rw [e.1, List.length_take]; omega) (by rw [List.take_zero]; exact Ea.nil) (fun i x H' acc Φ Ψ hi hx sm hd he kf => ?_) fun H1 acc s1 hd he => ?_
    · obtain ⟨c, r, rfl, hr', hc⟩ := hE.at_ hx
      have hc' : isT H' c (rz r) := sm _ _ hc
      refine ⟨rfl, ?_⟩
      dsimp only [tYes]
      rw [if_pos rfl]
      refine ⟨_, rfl, c, _, _, _, rfl, rfl, SqT.of hc', rfl, _, rfl, c, _, _, _, rfl, rfl, SqT.of hc', rfl, by show 2 ≤ sizeLine; decide, fun u hu => ?_⟩
      have su := Same.new (o := .tup [.bl r.2.1, .bl r.2.2.2]) hu
      refine kf _ _ su (su _ _ hd) fun H5 h5 b5 _ => ?_
      have hz : (rows.map LF.key1)[i]? = some (LF.key1 r) := by rw [List.getElem?_map, hr']; rfl
      rw [L2.take_succ' hz]
      have hdd : ∀ b ys, (upd H' u (.tup [.bl r.2.1, .bl r.2.2.2])) b = some (.tup ys) → b ≠ Dd := fun b ys e => ne_of e (su _ _ hd) (by intro z; cases z)
      refine Ea.push (he.imp fun c' k' q => q.kt fun b ys e => ?_) ⟨_, b5 _ _ (hdd _ _ upd_same) upd_same, .cons (.inr ⟨_, rfl, rfl⟩) (.cons (.inr ⟨_, rfl, rfl⟩) .nil)⟩
      exact b5 _ _ (hdd _ _ (su _ _ e)) (su _ _ e)
    have hl2 : refs.length = (rows.map LF.key1).length := by simp [hlr]
    rw [hl2, List.take_length] at he
    refine ⟨Dd, acc, _, rfl, hd, he, by simp; exact hsz, fun p H2 hp hpn s2 => ?_⟩
    have s12 := s1.trans s2
    have hp0 := L2.Same.none s1 hpn
    have clen : ∀ j, (LF.chain rows j).length = rows.length := LF.chain_len
    refine ⟨_, rfl, _, rfl, R, p, k, refs, rows, LF.chain rows 0, rfl, hR.up s12, hE.imp (fun c r q => s12 _ _ q), hp, clen 0, ok, hsz, fun q H3 hq hqn s3 => ?_⟩
    obtain ⟨kr, _, hmin, hrest⟩ := LF.rests ok
    have hcls := LF.cls_of ok hmin hrest
    refine ⟨fun m σ' H' => ∃ j a b x3, m = kr - j ∧ j ≤ kr ∧ σ' = [some (.ref R), some (.ref a), some (.ref b), x3] ∧ Same H H' ∧ H a = none ∧ H' a = some (.lst (natsV (LF.chain rows j))) ∧ H' b = some (.lst (natsV (LF.chain rows (j + 1)))) ∧ H b = none, ⟨kr, 0, p, q, none, rfl, Nat.zero_le _, rfl, s12.trans s3, hp0, s3 _ _ hp, hq, L2.Same.none s12 hqn⟩, ?_⟩
    rintro m σ' H' ⟨j, a, b, x3, rfl, hj, rfl, s', ha0, ha, hb, hb0⟩
    refine ⟨_, rfl, _, rfl, .list ((LF.chain rows (j + 1)).map fun (n : Nat) => PyData.int ((n : Nat) : Int)), .list ((LF.chain rows j).map fun (n : Nat) => PyData.int ((n : Nat) : Int)), ?_, ?_, ?_, ?_, _, rfl, ?_⟩
    · have := dp_ints (K := K) (H := H') ((LF.chain rows (j + 1)).map fun (n : Nat) => ((n : Nat) : Int))
      rw [← natsV_ints, List.map_map] at this
      exact .lst (SqL.of hb) this
    · have := dp_ints (K := K) (H := H') ((LF.chain rows j).map fun (n : Nat) => ((n : Nat) : Int))
      rw [← natsV_ints, List.map_map] at this
      exact .lst (SqL.of ha) this
    · have := ints_shaped ((LF.chain rows (j + 1)).map fun (n : Nat) => ((n : Nat) : Int))
      rw [List.map_map] at this
      exact this
    · have := ints_shaped ((LF.chain rows j).map fun (n : Nat) => ((n : Nat) : Int))
      rw [List.map_map] at this
      exact this
    have heq := ints_eqv ((LF.chain rows (j + 1)).map fun (n : Nat) => ((n : Nat) : Int)) ((LF.chain rows j).map fun (n : Nat) => ((n : Nat) : Int))
    rw [List.map_map, List.map_map] at heq
    have heq' : PyData.eqv (.list ((LF.chain rows (j + 1)).map fun (n : Nat) => PyData.int ((n : Nat) : Int))) (.list ((LF.chain rows j).map fun (n : Nat) => PyData.int ((n : Nat) : Int))) = decide (LF.chain rows (j + 1) = LF.chain rows j) := by
      refine Eq.trans heq ?_
      by_cases e : LF.chain rows (j + 1) = LF.chain rows j
      · rw [decide_eq_true e, decide_eq_true (nats_inj.mpr e)]
      · rw [decide_eq_false e, decide_eq_false (fun z => e (nats_inj.mp z))]
    rw [heq']
    by_cases e : LF.chain rows (j + 1) = LF.chain rows j
    · rw [decide_eq_true e]
      have hjk : j = kr := by
        rcases Nat.lt_or_ge j kr with q | q
        · exact absurd e.symm (hmin j q)
        · omega
      subst hjk
      refine iteF ⟨_, rfl, kk a H' ?_ ha0 s'⟩
      rw [hcls]
      exact ha
    · rw [decide_eq_false e]
      refine iteT ⟨fun σ2 H2' => ∃ a2 b2 x3, σ2 = [some (.ref R), some (.ref a2), some (.ref b2), x3] ∧ Same H H2' ∧ H a2 = none ∧ H2' a2 = some (.lst (natsV (LF.chain rows (j + 1)))) ∧ H2' b2 = some (.lst (natsV (LF.chain rows (j + 1 + 1)))) ∧ H b2 = none, ?_, ?_⟩
      · rintro σ2 H2' ⟨a2, b2, x3', rfl, q1, q2, q3, q4, q5⟩
        have hjk : j < kr := by
          rcases Nat.lt_or_ge j kr with q | q
          · exact q
          · have : j = kr := by omega
            subst this
            exact absurd hrest.symm e
        exact ⟨kr - (j + 1), by omega, j + 1, a2, b2, x3', rfl, hjk, rfl, q1, q2, q3, q4, q5⟩
      · refine ⟨_, rfl, _, rfl, _, rfl, R, b, k, refs, rows, LF.chain rows (j + 1), rfl, hR.up s', hE.imp (fun c r q => s' _ _ q), hb, clen _, ok, hsz, fun q2 H4 hq2 hq2n s4 => ?_⟩
        exact ⟨b, q2, x3, rfl, s'.trans s4, hb0, s4 _ _ hb, hq2, L2.Same.none s' hq2n⟩
end
end PA

set_option maxHeartbeats 8000000
namespace PA
open PySem L2 RZ
open C8 (pss_cut tCut)
def ki (n : Nat) : Key := Sum.inl ((n : Nat) : Int)
theorem ki_inj (a b : Nat) (h : ki a = ki b) : a = b := by
  unfold ki at h
  injection h with h
  omega
/-- the dict of the visited states -/
abbrev ents (o : List Nat) : List (Key × V) := tab ki 0 o
theorem ents_val (o : List Nat) (x : Nat) : valV (ents o) (ki x) = if x ∈ o then some (V.int ((LF.ix o x : Nat) : Int)) else none := by
  have := tab_val (f := ki) ki_inj x o 0
  rw [Nat.zero_add] at this
  exact this
def spRenL : Sp := fun vs H Q _ => ∃ (c L : Addr) (r : Rn) (cs : List Nat), vs = [.ref c, .ref L] ∧ isR H c r ∧ H L = some (.lst (natsV cs)) ∧ r.1 < cs.length ∧ r.2.2.1 < cs.length ∧ ∀ t H', Same H H' → isR H' t (LF.renum (LF.at_ cs) r) → Q (.ref t) H'
def spRenD : Sp := fun vs H Q _ => ∃ (c d : Addr) (r : Rn) (o : List Nat), vs = [.ref c, .ref d] ∧ isR H c r ∧ Rd H d (.dK (ents o)) ∧ r.1 ∈ o ∧ r.2.2.1 ∈ o ∧ ∀ t H', Same H H' → isR H' t (LF.renum (LF.ix o) r) → Q (.ref t) H'
section
variable {P : Program} {w : World} {K : PySem.W.Frag} {mg : Str → Option Value} {base : Heap} {C : Addr}
theorem scRenum : FnScope ["row", "numbers"] ["row", "numbers"] (defScope sRenum) := ⟨rfl, rfl, rfl, by decide +kernel, rfl, by decide +kernel, by decide +kernel⟩
theorem ok_renL {f : Addr} {fd : FuncData} (F : Fun K "_renumbered" "_renumbered" sRenum f fd) : FnOk P w K mg base CX0 1 f fd ["row", "numbers"] spRenL := by
  refine F.ok scRenum (fun vs H Q E h => ?_) (fun cdv A outer s H vs Q E hr h => ?_)
  · obtain ⟨c, L, _, _, rfl, _⟩ := h
    rfl
  · obtain ⟨c, L, r, cs, rfl, hc, hL, h1, h2, kk⟩ := h
    refine ⟨_, pss_one (ps_ret (pe_tup (pa_cons (pe_ix ix_list (pv 1) (pe_ix ix_tup (pv 0) pe_int (fun _ _ => rfl)) (fun _ _ => rfl)) (pa_cons (pe_ix ix_tup (pv 0) pe_int (fun _ _ => rfl)) (pa_cons (pe_ix ix_list (pv 1) (pe_ix ix_tup (pv 0) pe_int (fun _ _ => rfl)) (fun _ _ => rfl)) (pa_cons (pe_ix ix_tup (pv 0) pe_int (fun _ _ => rfl)) pa_nil)))))), ?_⟩
    have hcT : H c = some (.tup (rv (rz r))) := hc
    refine ⟨_, rfl, _, rfl, c, _, _, _, rfl, rfl, SqT.of hcT, rfl, L, _, _, _, rfl, rfl, SqL.of hL, nat_at h1, _, rfl, c, _, _, _, rfl, rfl, SqT.of hcT, rfl, _, rfl, _, rfl, c, _, _, _, rfl, rfl, SqT.of hcT, rfl, L, _, _, _, rfl, rfl, SqL.of hL, nat_at h2, _, rfl, c, _, _, _, rfl, rfl, SqT.of hcT, rfl, by show 4 ≤ sizeLine; decide, fun t ht => ?_⟩
    exact kk t _ (Same.new ht) upd_same
theorem ok_renD {f : Addr} {fd : FuncData} (F : Fun K "_renumbered" "_renumbered" sRenum f fd) : FnOk P w K mg base CX0 1 f fd ["row", "numbers"] spRenD := by
  refine F.ok scRenum (fun vs H Q E h => ?_) (fun cdv A outer s H vs Q E hr h => ?_)
  · obtain ⟨c, L, _, _, rfl, _⟩ := h
    rfl
  · obtain ⟨c, d, r, o, rfl, hc, hd, h1, h2, kk⟩ := h
    have hu := u1 hr.units
    refine ⟨_, pss_one (ps_ret (pe_tup (pa_cons (pe_dget hu (pv 1) (pe_ix ix_tup (pv 0) pe_int (fun _ _ => rfl)) (fun _ _ => rfl)) (pa_cons (pe_ix ix_tup (pv 0) pe_int (fun _ _ => rfl)) (pa_cons (pe_dget hu (pv 1) (pe_ix ix_tup (pv 0) pe_int (fun _ _ => rfl)) (fun _ _ => rfl)) (pa_cons (pe_ix ix_tup (pv 0) pe_int (fun _ _ => rfl)) pa_nil)))))), ?_⟩
    have hcT : H c = some (.tup (rv (rz r))) := hc
    have dg : ∀ x, x ∈ o → DGet H d (.int ((x : Nat) : Int)) (some (V.int ((LF.ix o x : Nat) : Int))) := by
      intro x hx
      have hv := ents_val o x
      rw [if_pos hx] at hv
      exact .inl ⟨ents o, ki x, hd, rfl, hv.symm⟩
    refine ⟨_, rfl, _, rfl, c, _, _, _, rfl, rfl, SqT.of hcT, rfl, d, _, rfl, dg _ h1, _, rfl, c, _, _, _, rfl, rfl, SqT.of hcT, rfl, _, rfl, _, rfl, c, _, _, _, rfl, rfl, SqT.of hcT, rfl, d, _, rfl, dg _ h2, _, rfl, c, _, _, _, rfl, rfl, SqT.of hcT, rfl, by show 4 ≤ sizeLine; decide, fun t ht => ?_⟩
    exact kk t _ (Same.new ht) upd_same
end
end PA

set_option maxHeartbeats 8000000
namespace PA
open PySem L2 RZ
open C8 (pss_cut tCut)
def spMerged (K : PySem.W.Frag) : Sp := fun vs H Q _ => ∃ (R L : Addr) (k : L2.Kind) (refs : List V) (rows : List Rn) (cs : List Nat), vs = [.ref R, .ref L] ∧ Sk K k H R refs ∧ Ea H isR refs rows ∧ H L = some (.lst (natsV cs)) ∧ cs.length = rows.length ∧ LF.TOk rows ∧ rows.length ≤ 3000 ∧
  (∀ i ≤ rows.length, ((rows.zipIdx.take i).foldl (LF.mstep cs) []).length ≤ i) ∧
  ∀ p H' refs', H' p = some (.lst refs') → Ea H' isR refs' (LF.merged rows cs) → H p = none → Same H H' → Q (.ref p) H'
theorem isR.lst {H : Hp} {c D : Addr} {r : Rn} {xs ys : List V} (q : isR H c r) (hD : H D = some (.lst xs)) : isR (upd H D (.lst ys)) c r := isT.lst q hD
section
variable {P : Program} {w : World} {K : PySem.W.Frag} {mg : Str → Option Value} {base : Heap} {C : Addr}
theorem scMerged : FnScope ["rows", "classes", "merged", "state", "row"] ["rows", "classes"] (defScope sMerged) := ⟨rfl, rfl, rfl, by decide +kernel, rfl, by decide +kernel, by decide +kernel⟩
theorem ok_merged {f g : Addr} {fd gd : FuncData} (F : Fun K "_merged" "_merged" sMerged f fd) (T : Txt K mg C) (hen : mg "enumerate" = none) (D : Df K mg "_renumbered" sRenum g gd ["row", "numbers"]) : FnOk P w K mg base CX0 2 f fd ["rows", "classes"] (spMerged K) := by
  have G : FnOk P w K mg base CX0 1 g gd ["row", "numbers"] spRenL := ok_renL D.F
  refine F.ok scMerged (fun vs H Q E h => ?_) (fun cdv A outer s H vs Q E hr h => ?_)
  · obtain ⟨R, L, _, _, _, _, rfl, _⟩ := h
    rfl
  · obtain ⟨R, L, k, refs, rows, cs, rfl, hR, hE, hL, hcs, ok, hsz, hlen, kk⟩ := h
    have hlr : refs.length = rows.length := hE.1
    refine ⟨_, pss_cons (ps_set (i := 2) scMerged.nd rfl (Or.inl rfl) (pe_lst pa_nil))
      (pss_cons (ps_for PassesOwn.never rfl (pi_enumK (by rfl) hen (pa_cons (pv 0) pa_nil)) (pg_tup rfl (pgs_cons (pg_name (i := 3) scMerged.nd rfl (Or.inl rfl)) (pgs_cons (pg_name (i := 4) scMerged.nd rfl (Or.inl rfl)) pgs_nil)))
        (pss_one (ps_if (pt_cmpR op_eq (pe_ix ix_list (pv 1) (pv 3) (fun _ _ => rfl)) (pe_callB call_len_seq (by rfl) T.len_ PySem.boot_len (pa_cons (pv 2) pa_nil)) (nomark _))
          (pss_one (ps_expr (pe_bm PySem.F.plainAttrs_list PySem.F.slot_list_append PySem.F.type_list_append mt_append (pv 2) (pa_cons (pe_call G hr rfl D.M D.F.kp D.B .nil pass0 (pa_cons (pv 4) (pa_cons (pv 1) pa_nil))) pa_nil)))) pss_nil)))
      (pss_one (ps_ret (pv 2)))), ?_⟩
    refine ⟨Nat.zero_le _, fun M hM => ?_⟩
    have sM := Same.new (o := .lst []) hM
    refine ⟨_, rfl, k, R, refs, rfl, hR.up sM, ?_⟩
    refine for_it (walk_e (K := K) (k := k) (a := R) (xs := refs)) (fun i σ' H' => ∃ x3 x4 acc, σ' = [some (.ref R), some (.ref L), some (.ref M), x3, x4] ∧ Same H H' ∧ H' M = some (.lst acc) ∧ Ea H' isR acc ((rows.zipIdx.take i).foldl (LF.mstep cs) [])) ?_ ?_ ?_ ?_
    · exact ⟨none, none, [], rfl, sM, upd_same, by rw [List.take_zero]; exact Ea.nil⟩
    · rintro i σ' H' _ ⟨_, _, _, _, s', _⟩
      exact hR.up s'
    · rintro i x σ' H' _ hi ⟨x3, x4, acc, rfl, s', hm, he⟩ ⟨t, a, b, rfl, ht, rfl, h1, h2⟩
      dsimp only at h1 h2
      cases h1
      obtain ⟨c, r, rfl, hr', hc⟩ := hE.at_ h2
      have st := Same.new (o := .tup [.int (i : Int), .ref c]) ht
      have hL' := st _ _ (s' _ _ hL)
      have hc' : isR (upd H' t (.tup [.int (i : Int), .ref c])) c r := st _ _ (s' _ _ hc)
      have hm' := st _ _ hm
      have he' : Ea (upd H' t (.tup [.int (i : Int), .ref c])) isR acc ((rows.zipIdx.take i).foldl (LF.mstep cs) []) := he.imp fun c' r' q => st _ _ q
      obtain ⟨o1, o2⟩ := ok r (List.mem_of_getElem? hr')
      have hil : i < rows.length := by rw [← hlr]; exact hi
      have hn : (rows.zipIdx.take (i + 1)).foldl (LF.mstep cs) [] = LF.mstep cs ((rows.zipIdx.take i).foldl (LF.mstep cs) []) (r, i) := by
        rw [L2.take_succ' (LF.zip_get hr'), List.foldl_append]
        rfl
      have hal : acc.length = ((rows.zipIdx.take i).foldl (LF.mstep cs) []).length := he.1
      refine ⟨t, _, rfl, SqT.of upd_same, rfl, _, _, rfl, _, _, rfl, rfl, ?_⟩
      refine ⟨_, rfl, _, rfl, L, _, _, _, rfl, rfl, SqL.of hL', nat_at (by rw [hcs]; exact hil), _, rfl, M, _, rfl, .inl (SqL.of hm'), rfl, _, rfl, ifD_2 (fun e => ?_) (fun e => ?_)⟩
      · have e' : LF.at_ cs i = ((rows.zipIdx.take i).foldl (LF.mstep cs) []).length := by
          injection e with e
          omega
        refine ⟨_, rfl, .inl ⟨rfl, _, SqL.of hm'⟩, _, rfl, _, rfl, c, L, r, cs, rfl, hc', hL', by rw [hcs]; exact o1, by rw [hcs]; exact o2, fun u H4 s4 hu4 => ?_⟩
        have hm4 := s4 _ _ hm'
        refine ⟨M, acc, _, rfl, rfl, hm4, ?_, ?_⟩
        · rw [hal]
          exact Nat.lt_of_le_of_lt (Nat.le_trans (hlen i (Nat.le_of_lt hil)) (by omega : i ≤ 3000)) (by decide)
        · refine ⟨_, _, acc ++ [.ref u], rfl, fun c' o z => ?_, upd_same, ?_⟩
          · rw [upd_ne (ne_of_none z hM)]
            exact s4 _ _ (st _ _ (s' _ _ z))
          · rw [hn, show LF.mstep cs ((rows.zipIdx.take i).foldl (LF.mstep cs) []) (r, i) = ((rows.zipIdx.take i).foldl (LF.mstep cs) []) ++ [LF.renum (LF.at_ cs) r] from if_pos e']
            exact Ea.push (he'.imp fun c' r' q => isR.lst (show isR H4 c' r' from s4 _ _ q) hm4) (isR.lst hu4 hm4)
      · have e' : ¬ LF.at_ cs i = ((rows.zipIdx.take i).foldl (LF.mstep cs) []).length := by
          intro z
          exact e (by rw [hal, z])
        refine ⟨_, _, acc, rfl, fun c' o z => st _ _ (s' _ _ z), hm', ?_⟩
        rw [hn, show LF.mstep cs ((rows.zipIdx.take i).foldl (LF.mstep cs) []) (r, i) = ((rows.zipIdx.take i).foldl (LF.mstep cs) []) from if_neg e']
        exact he'
    · rintro σ' H' ⟨x3, x4, acc, rfl, s', hm, he⟩
      have hz : refs.length = rows.zipIdx.length := by simp [hlr]
      rw [hz, List.take_length] at he
      exact ⟨_, rfl, kk M H' acc hm he hM s'⟩
end
end PA

set_option maxHeartbeats 8000000
namespace PA
open PySem L2 RZ
open C8 (pss_cut tCut)
theorem visit_nil (rows : List Rn) (f : Nat) (s : List Nat) : LF.visit rows f [] s = s := by
  cases f <;> rfl
theorem ents_snoc (s : List Nat) (x : Nat) : ents (s ++ [x]) = ents s ++ [(ki x, V.int ((s.length : Nat) : Int))] := by
  have := tab_snoc (f := ki) s 0 x
  rw [Nat.zero_add] at this
  exact this
def spVisit : Sp := fun vs H Q _ => ∃ (M B : Addr) (refs : List V) (rows : List Rn) (b : List Nat), vs = [.ref M, .ref B] ∧ H M = some (.lst refs) ∧ Ea H isR refs rows ∧ H B = some (.lst (natsV b)) ∧ LF.TOk rows ∧ (∀ x ∈ b, x < rows.length) ∧ rows.length ≤ 3000 ∧ b.length ≤ 100 ∧
  ∀ d H', H' d = some (.dK (ents (LF.ord rows b))) → H d = none → Same H H' → Q (.ref d) H'
section
variable {P : Program} {w : World} {K : PySem.W.Frag} {mg : Str → Option Value} {base : Heap} {C : Addr}
theorem scVisit : FnScope ["rows", "starts", "numbers", "waiting", "state"] ["rows", "starts"] (defScope sVisit) := ⟨rfl, rfl, rfl, by decide +kernel, rfl, by decide +kernel, by decide +kernel⟩
theorem ok_visit {f : Addr} {fd : FuncData} (F : Fun K "_visit_numbers" "_visit_numbers" sVisit f fd) (T : Txt K mg C) : FnOk P w K mg base CX0 1 f fd ["rows", "starts"] spVisit := by
  refine F.ok scVisit (fun vs H Q E h => ?_) (fun cdv A outer s H vs Q E hr h => ?_)
  · obtain ⟨M, B, _, _, _, rfl, _⟩ := h
    rfl
  · obtain ⟨M, B, refs, rows, b, rfl, hM, hE, hB, ok, hb, hsz, hb100, kk⟩ := h
    have hu := u1 hr.units
    refine ⟨_, pss_cons (ps_set (i := 2) scVisit.nd rfl (Or.inl rfl) pe_dnewK)
      (pss_cons (ps_set (i := 3) scVisit.nd rfl (Or.inl rfl) (pe_callTy call_list_of (by rfl) T.list_ boot_list' (pa_cons (pv 1) pa_nil)))
      (pss_cons (ps_while PassesOwn.never (pt_truth (pv 3) (fun _ => rfl))
        (pss_cons (ps_set (i := 4) scVisit.nd rfl (Or.inl rfl) (pe_bm PySem.F.plainAttrs_list PySem.F.slot_list_pop PySem.F.type_list_pop mt_popAt (pv 3) (pa_cons pe_int pa_nil)))
        (pss_one (ps_if (pt_cmp (pc_dnotin hu (pv 4) (pv 2)))
          (pss_cons (ps_dput hu (pv 2) (pv 4) (pe_callB call_lenD (by rfl) T.len_ PySem.boot_len (pa_cons (pv 2) pa_nil)) rfl)
          (pss_cons (ps_expr (pe_bm PySem.F.plainAttrs_list PySem.F.slot_list_append PySem.F.type_list_append mt_append (pv 3) (pa_cons (pe_ix ix_tup (pe_ix ix_list (pv 0) (pv 4) (fun _ _ => rfl)) pe_int (fun _ _ => rfl)) pa_nil)))
          (pss_one (ps_expr (pe_bm PySem.F.plainAttrs_list PySem.F.slot_list_append PySem.F.type_list_append mt_append (pv 3) (pa_cons (pe_ix ix_tup (pe_ix ix_list (pv 0) (pv 4) (fun _ _ => rfl)) pe_int (fun _ _ => rfl)) pa_nil)))))) pss_nil))))
      (pss_one (ps_ret (pv 2))))), ?_⟩
    refine fun d hd => ?_
    have sd := Same.new (o := .dK []) hd
    refine ⟨_, rfl, B, _, rfl, .inl (SqL.of (sd _ _ hB)), fun wl hwl => ?_⟩
    have sw := Same.new (o := .lst (natsV b)) hwl
    have hd2 := sw _ _ (show (upd H d (.dK [])) d = some (.dK []) from upd_same)
    refine ⟨fun m σ' H' => ∃ f w s x4, m = f ∧ σ' = [some (.ref M), some (.ref B), some (.ref d), some (.ref wl), x4] ∧ Same H H' ∧ H' d = some (.dK (ents s)) ∧ H' wl = some (.lst (natsV w)) ∧ LF.VOk rows w s ∧ LF.need rows w s ≤ f ∧ f ≤ 10000 ∧ LF.visit rows f w s = LF.ord rows b, ⟨b.length + 2 * rows.length, _, b, [], none, rfl, rfl, sd.trans sw, hd2, upd_same, ⟨ok, hb, fun x hx => (List.not_mem_nil hx).elim, List.nodup_nil⟩, by unfold LF.need; simp, by omega, rfl⟩, ?_⟩
    rintro m σ' H' ⟨f, w', s', x4, rfl, rfl, sm, hdd, hww, v, hnd, hfb, hv⟩
    have hwl0 : H wl = none := L2.Same.none sd hwl
    cases w' with
    | nil =>
      rw [visit_nil] at hv
      refine ⟨_, rfl, false, .inl ⟨_, SqL.of hww, rfl⟩, iteF ⟨_, rfl, kk d H' ?_ hd sm⟩⟩
      rw [← hv]
      exact hdd
    | cons x w1 =>
      obtain ⟨f, rfl⟩ : ∃ f', m = f' + 1 := by
        cases m with
        | zero => unfold LF.need at hnd; simp at hnd
        | succ f' => exact ⟨f', rfl⟩
      have hxr : x < rows.length := v.hw x List.mem_cons_self
      have hr' : rows[x]? = some rows[x] := List.getElem?_eq_getElem hxr
      have hwl1 : w1.length ≤ 10000 := by
        unfold LF.need at hnd
        rw [List.length_cons] at hnd
        omega
      have hpop : (natsV (x :: w1)).eraseIdx 0 = natsV w1 := rfl
      refine ⟨_, rfl, true, .inl ⟨_, SqL.of hww, rfl⟩, iteT ⟨fun σ2 H2 => ∃ w s x4, σ2 = [some (.ref M), some (.ref B), some (.ref d), some (.ref wl), x4] ∧ Same H H2 ∧ H2 d = some (.dK (ents s)) ∧ H2 wl = some (.lst (natsV w)) ∧ LF.VOk rows w s ∧ LF.need rows w s ≤ f ∧ LF.visit rows f w s = LF.ord rows b, ?_, ?_⟩⟩
      · rintro σ2 H2 ⟨w2, s2, x4', rfl, q1, q2, q3, q4, q5, q6⟩
        exact ⟨f, Nat.lt_succ_self f, f, w2, s2, x4', rfl, rfl, q1, q2, q3, q4, q5, by omega, q6⟩
      refine ⟨_, rfl, .inl ⟨rfl, _, SqL.of hww⟩, wl, _, 0, 0, .int ((x : Nat) : Int), rfl, rfl, hww, by decide, by decide, (ixN_seq (Evl.ixN_nat (j := 0) (by simp [natsV]))).1, rfl, ?_⟩
      rw [hpop]
      have nwd : d ≠ wl := ne_of hdd hww (by intro z; cases z)
      have hdd2 : (upd H' wl (.lst (natsV w1))) d = some (.dK (ents s')) := by rw [upd_ne nwd]; exact hdd
      have sm2 : Same H (upd H' wl (.lst (natsV w1))) := fun c o z => by rw [upd_ne (ne_of_none z hwl0)]; exact sm _ _ z
      have hww2 : (upd H' wl (.lst (natsV w1))) wl = some (.lst (natsV w1)) := upd_same
      generalize upd H' wl (.lst (natsV w1)) = H3 at hdd2 sm2 hww2
      refine ⟨_, rfl, _, rfl, d, _, rfl, DGet.k (k := ki x) hdd2, _, rfl, ?_⟩
      rw [ents_val]
      by_cases hm : x ∈ s'
      · rw [if_pos hm]
        rw [LF.visit_old hm] at hv
        refine iteF ⟨w1, s', _, rfl, sm2, hdd2, hww2, v.old, ?_, hv⟩
        unfold LF.need at hnd ⊢
        rw [List.length_cons] at hnd
        omega
      · rw [if_neg hm]
        rw [LF.visit_new hm hr'] at hv
        have hval : valV (ents s') (ki x) = none := by rw [ents_val, if_neg hm]
        have hroom := v.room hm
        have hnew := LF.need_new (r := rows[x]) v hm
        obtain ⟨c, hxc, hcc⟩ := hE.get hr'
        refine iteT ?_
        have hle : (ents s').length = s'.length := tab_len _ _
        have hput := DPut.k (k := ki x) (v := V.int ((ents s').length : Int)) hdd2 (by rw [hle]; exact Nat.lt_of_lt_of_le hroom (Nat.le_trans hsz (by decide)))
        rw [putK_new _ hval, hle, ← ents_snoc] at hput
        refine ⟨_, rfl, d, _, rfl, hdd2, _, rfl, _, rfl, d, _, rfl, by rw [hle]; exact hput, ?_⟩
        have hdd4 : (upd H3 d (.dK (ents (s' ++ [x])))) d = some (.dK (ents (s' ++ [x]))) := upd_same
        have hww4 : (upd H3 d (.dK (ents (s' ++ [x])))) wl = some (.lst (natsV w1)) := by rw [upd_ne nwd.symm]; exact hww2
        have sm4 : Same H (upd H3 d (.dK (ents (s' ++ [x])))) := fun c o z => by rw [upd_ne (ne_of_none z hd)]; exact sm2 _ _ z
        generalize upd H3 d (.dK (ents (s' ++ [x]))) = H4 at hdd4 hww4 sm4
        have hsz1 : (natsV w1).length < sizeLine := by
          unfold natsV
          rw [List.length_map]
          exact Nat.lt_of_le_of_lt hwl1 (by decide)
        refine ⟨_, rfl, .inl ⟨rfl, _, SqL.of hww4⟩, _, rfl, _, rfl, M, _, _, _, rfl, rfl, SqL.of (sm4 _ _ hM), atI_nat hxc, c, _, 0, _, rfl, rfl, SqT.of (sm4 _ _ hcc), rfl, wl, _, _, rfl, rfl, hww4, hsz1, ?_⟩
        have e1 : natsV w1 ++ [V.int ((rows[x].1 : Nat) : Int)] = natsV (w1 ++ [rows[x].1]) := by unfold natsV; simp
        have hww5 : (upd H4 wl (.lst (natsV w1 ++ [V.int ((rows[x].1 : Nat) : Int)]))) wl = some (.lst (natsV (w1 ++ [rows[x].1]))) := by rw [e1]; exact upd_same
        have sm5 : Same H (upd H4 wl (.lst (natsV w1 ++ [V.int ((rows[x].1 : Nat) : Int)]))) := fun c o z => by rw [upd_ne (ne_of_none z hwl0)]; exact sm4 _ _ z
        have hdd5 : (upd H4 wl (.lst (natsV w1 ++ [V.int ((rows[x].1 : Nat) : Int)]))) d = some (.dK (ents (s' ++ [x]))) := by rw [upd_ne nwd]; exact hdd4
        refine ⟨_, rfl, .inl ⟨rfl, _, SqL.of hww5⟩, _, rfl, _, rfl, M, _, _, _, rfl, rfl, SqL.of (sm5 _ _ hM), atI_nat hxc, c, _, 2, _, rfl, rfl, SqT.of (sm5 _ _ hcc), rfl, wl, _, _, rfl, rfl, hww5, ?_, ?_⟩
        · unfold natsV
          rw [List.length_map, List.length_append]
          exact Nat.lt_of_le_of_lt (Nat.add_le_add_right hwl1 _) (by show 10000 + 1 < sizeLine; decide)
        have e2 : natsV (w1 ++ [rows[x].1]) ++ [V.int ((rows[x].2.2.1 : Nat) : Int)] = natsV (w1 ++ [rows[x].1, rows[x].2.2.1]) := by unfold natsV; simp
        refine ⟨w1 ++ [rows[x].1, rows[x].2.2.1], s' ++ [x], _, rfl, fun c o z => by rw [upd_ne (ne_of_none z hwl0)]; exact sm5 _ _ z, by rw [upd_ne nwd]; exact hdd5, by rw [← e2]; exact upd_same, v.new hm hr', by omega, hv⟩
end
end PA

set_option maxHeartbeats 8000000
namespace PA
open PySem L2 RZ
open C8 (pss_cut tCut)
theorem walk_kx {d : Addr} {o : Obj} {kvs : List (Key × V)} : Walk (Itk d o kvs) kvs.length (fun H => H d = some (.frz o (.dK kvs))) (YAt (kvs.map fun x => kV x.1)) := by
  have wk := walk_keys (d := d) (o := o) (kvs := kvs)
  refine ⟨wk.1, wk.2, fun i H x H' hi q y => ?_⟩
  obtain ⟨rfl, k, v, e, rfl⟩ := wk.3 i H x H' hi q y
  refine ⟨rfl, ?_⟩
  show (kvs.map fun x => kV x.1)[i]? = some (kV k)
  rw [List.getElem?_map, e]
  rfl
theorem ents_keys (o : List Nat) : (ents o).map (fun x => kV x.1) = natsV o := by
  unfold ents tab natsV
  rw [List.map_map]
  refine List.ext_getElem? fun i => ?_
  rw [List.getElem?_map, List.getElem?_map, List.getElem?_zipIdx]
  cases o[i]? <;> rfl
def spLeastF (K : PySem.W.Frag) : Sp := fun vs H Q _ => ∃ (R S : Addr) (k k2 : L2.Kind) (refs : List V) (rows : List Rn) (st : List Nat), vs = [.ref R, .ref S] ∧ Sk K k H R refs ∧ Ea H isR refs rows ∧ Sk K k2 H S (natsV st) ∧ LF.TOk rows ∧ (∀ x ∈ st, x < rows.length) ∧ rows.length ≤ 3000 ∧ st.length ≤ 100 ∧
  ∀ t T1 T2 refs' H', H' t = some (.tup [.ref T1, .ref T2]) → H' T1 = some (.tup refs') → Ea H' isR refs' (LF.lf rows st).1 → H' T2 = some (.tup (natsV (LF.lf rows st).2)) → Same H H' → Q (.ref t) H'
/-- what the least form reaches -/
structure LibF (K : PySem.W.Frag) (mg : Str → Option Value) (f1 f2 f3 f4 f5 f6 f7 : Addr) (d1 d2 d3 d4 d5 d6 d7 : FuncData) : Prop where
  hen : mg "enumerate" = none
  F1 : Df K mg "least_form" sLeastF f1 d1 ["rows", "starts"]
  F2 : Df K mg "_classes" sClasses f2 d2 ["rows"]
  F3 : Df K mg "_split" sSplit f3 d3 ["rows", "classes"]
  F4 : Df K mg "_numbered" sNumbered f4 d4 ["keys"]
  F5 : Df K mg "_merged" sMerged f5 d5 ["rows", "classes"]
  F6 : Df K mg "_renumbered" sRenum f6 d6 ["row", "numbers"]
  F7 : Df K mg "_visit_numbers" sVisit f7 d7 ["rows", "starts"]
section
variable {P : Program} {w : World} {K : PySem.W.Frag} {mg : Str → Option Value} {base : Heap} {C f1 f2 f3 f4 f5 f6 f7 : Addr} {d1 d2 d3 d4 d5 d6 d7 : FuncData}
theorem scLeastF : FnScope ["rows", "starts", "classes", "merged", "begins", "numbers", "least_rows", "state"] ["rows", "starts"] (defScope sLeastF) := ⟨rfl, rfl, rfl, by decide +kernel, rfl, by decide +kernel, by decide +kernel⟩
theorem ok_leastF (T : Txt K mg C) (L : LibF K mg f1 f2 f3 f4 f5 f6 f7 d1 d2 d3 d4 d5 d6 d7) : FnOk P w K mg base CX0 4 f1 d1 ["rows", "starts"] (spLeastF K) := by
  have G2 : FnOk P w K mg base CX0 3 f2 d2 ["rows"] (spClasses K) := ok_classes L.F2.F T L.hen L.F4 L.F3
  have G5 : FnOk P w K mg base CX0 2 f5 d5 ["rows", "classes"] (spMerged K) := ok_merged L.F5.F T L.hen L.F6
  have G6 : FnOk P w K mg base CX0 1 f6 d6 ["row", "numbers"] spRenD := ok_renD L.F6.F
  have G7 : FnOk P w K mg base CX0 1 f7 d7 ["rows", "starts"] spVisit := ok_visit L.F7.F T
  refine L.F1.F.ok scLeastF (fun vs H Q E h => ?_) (fun cdv A outer s H vs Q E hr h => ?_)
  · obtain ⟨R, S, _, _, _, _, _, rfl, _⟩ := h
    rfl
  · obtain ⟨R, S, k, k2, refs, rows, st, rfl, hR, hE, hS, ok, hst, hsz, hs100, kk⟩ := h
    have hr2 : Room 2 _ := hr.mono (by decide)
    have hr1 : Room 1 _ := hr.mono (by decide)
    have hu := u1 hr.units
    refine ⟨_, pss_cons (ps_set (i := 2) scLeastF.nd rfl (Or.inr rfl) (pe_call G2 hr rfl L.F2.M L.F2.F.kp L.F2.B .nil pass0 (pa_cons (pv 0) pa_nil)))
      (pss_cons (ps_set (i := 3) scLeastF.nd rfl (Or.inr rfl) (pe_call G5 hr2 rfl L.F5.M L.F5.F.kp L.F5.B .nil pass0 (pa_cons (pv 0) (pa_cons (pv 2) pa_nil))))
      (pss_cons (ps_setLc (i := 4) (own := [("state", 7)]) (g := gName 7) (tt := tYes) (by rfl) scLeastF.nd rfl rfl (sw_true rfl rfl rfl (by decide +kernel)) (pi_sq (pv 1)) (blkOk_by (N := ["rows", "starts", "classes", "merged", "begins", "numbers", "least_rows", "state"]) (sc := defScope sLeastF) (by decide +kernel))
          (fun _ _ _ _ _ => pg_name (i := 7) scLeastF.nd rfl (Or.inl rfl)) (fun _ _ _ _ _ => pts_nil) (fun _ _ _ _ _ => pe_ix (ix_listK (K := K) rfl) (pv 2) (pv 7) (fun _ _ => rfl)))
      (pss_cons (ps_set (i := 5) scLeastF.nd rfl (Or.inr rfl) (pe_call G7 hr1 rfl L.F7.M L.F7.F.kp L.F7.B .nil pass0 (pa_cons (pv 3) (pa_cons (pv 4) pa_nil))))
      (pss_cons (ps_set (i := 6) scLeastF.nd rfl (Or.inl rfl) (pe_callTy call_tuple_of (by rfl) T.tup_ boot_tuple' (pa_cons (pe_lock (pe_lc (own := [("state", 7)]) (g := gName 7) (tt := tYes) (by rfl) scLeastF.nd (pi_keys (pv 5)) (blkOk_by (N := ["rows", "starts", "classes", "merged", "begins", "numbers", "least_rows", "state"]) (sc := defScope sLeastF) (by decide +kernel))
          (fun _ _ _ _ _ => pg_name (i := 7) scLeastF.nd rfl (Or.inl rfl)) (fun _ _ _ _ _ => pts_nil) (fun _ _ _ _ _ => pe_call G6 hr1 rfl L.F6.M L.F6.F.kp L.F6.B .nil pass0 (pa_cons (pe_ix (ix_listK (K := K) rfl) (pv 3) (pv 7) (fun _ _ => rfl)) (pa_cons (pv 5) pa_nil))))) pa_nil)))
      (pss_one (ps_ret (pe_tup (pa_cons (pv 6) (pa_cons (pe_callTy call_tuple_of (by rfl) T.tup_ boot_tuple' (pa_cons (pe_lc (own := [("state", 7)]) (g := gName 7) (tt := tYes) (by rfl) scLeastF.nd (pi_list (pv 4)) (blkOk_by (N := ["rows", "starts", "classes", "merged", "begins", "numbers", "least_rows", "state"]) (sc := defScope sLeastF) (by decide +kernel))
          (fun _ _ _ _ _ => pg_name (i := 7) scLeastF.nd rfl (Or.inl rfl)) (fun _ _ _ _ _ => pts_nil) (fun _ _ _ _ _ => pe_dget hu (pv 5) (pv 7) (fun _ _ => rfl))) pa_nil)) pa_nil))))))))), ?_⟩
    have mok := LF.mg_ok ok
    have bl := LF.b_lt hst
    generalize hbd : st.map (LF.at_ (LF.cls rows)) = b at bl
    have hord := LF.ord_end mok bl
    have clen : (LF.cls rows).length = rows.length := LF.cls_len
    have mle : (LF.mg rows).length ≤ rows.length := LF.mg_le
    have hlf : LF.lf rows st = (LF.laid (LF.mg rows) (LF.ord (LF.mg rows) b), b.map (LF.ix (LF.ord (LF.mg rows) b))) := by
      unfold LF.lf
      rw [hbd]
    have hblen : b.length = st.length := by rw [← hbd, List.length_map]
    generalize ho : LF.ord (LF.mg rows) b = o at hord hlf
    have hclo := hord.closed (fun x hx => (List.not_mem_nil hx).elim)
    refine ⟨_, rfl, R, k, refs, rows, rfl, hR, hE, ok, hsz, fun cl H1 hcl hcl0 s1 => ?_⟩
    refine ⟨_, rfl, _, rfl, R, cl, k, refs, rows, LF.cls rows, rfl, hR.up s1, hE.imp (fun c r q => s1 _ _ q), hcl, clen, ok, hsz, fun i hi => ?_, fun M H2 mrefs hM hME hM0 s2 => ?_⟩
    · rw [(LF.merged_pre LF.cls_numb clen i hi).1]
      exact Nat.le_trans (LF.uniq_len _) (by rw [List.length_take]; omega)
    have s12 := s1.trans s2
    refine ⟨k2, _, rfl, S, rfl, ⟨_, hS.up s12⟩, fun Bd hBd => ?_⟩
    refine lc_same (xs := natsV st) (walk_k (k := k2)) (by unfold natsV; rw [List.length_map]; exact Nat.le_trans hs100 (by decide)) hBd (fun H' s' => (hS.up s12).up s') (natsV b) (by unfold natsV; rw [List.length_map, List.length_map, hblen]) (fun i x y H' Φ Ψ hx hy sm kf => ?_) fun H3 s3 hB3 => ?_
    · unfold natsV at hx hy
      rw [List.getElem?_map, Option.map_eq_some_iff] at hx
      obtain ⟨z, hz, rfl⟩ := hx
      rw [← hbd, List.getElem?_map, List.getElem?_map, hz] at hy
      cases hy
      refine ⟨rfl, ?_⟩
      dsimp only [tYes]
      rw [if_pos rfl]
      exact ⟨_, rfl, _, rfl, cl, _, _, _, rfl, rfl, SqL.of (sm _ _ (s2 _ _ hcl)), nat_at (by rw [clen]; exact hst z (List.mem_of_getElem? hz)), kf H' fun _ _ e => e⟩
    have hM3 := s3 _ _ hM
    have hE3 : Ea H3 isR mrefs (LF.mg rows) := hME.imp fun c r q => s3 _ _ q
    refine ⟨_, rfl, _, rfl, M, Bd, mrefs, LF.mg rows, b, rfl, hM3, hE3, hB3, mok, bl, by omega, by omega, fun d H4 hd4 hd0 s4 => ?_⟩
    rw [ho] at hd4
    have hM4 := s4 _ _ hM3
    refine ⟨d, _, hd4, trivial, fun od => ⟨_, rfl, d, od, rfl, .inl ⟨ents o, upd_same, fun Dd hD => ?_⟩⟩⟩
    have hlo : o.length ≤ (LF.mg rows).length := LF.few _ hord.nd hord.lt
    have frz0 : (upd H4 d (.frz od (.dK (ents o)))) d = some (.frz od (.dK (ents o))) := upd_same
    have nMd : M ≠ d := ne_of hM4 hd4 (by intro z; cases z)
    have mt : ∀ c o', H4 c = some o' → c ≠ d → (upd H4 d (.frz od (.dK (ents o)))) c = some o' := fun c o' e hc => by rw [upd_ne hc]; exact e
    have hMf := mt _ _ hM4 nMd
    have hEf : Ea (upd H4 d (.frz od (.dK (ents o)))) isR mrefs (LF.mg rows) := hE3.imp fun c r q => mt _ _ (s4 _ _ q) (ne_of (H := H4) (s4 _ _ q) hd4 (by intro z; cases z))
    have hEv : ∀ c o', H4 c = some o' → c ≠ d → (upd H4 d (.frz od (.dK (ents o)))) c = some o' := mt
    generalize hFz : upd H4 d (.frz od (.dK (ents o))) = Hf at hD frz0 hMf hEf hEv
    have hlg : (LF.laid (LF.mg rows) o).length = o.length := LF.laid_len _ hord.lt
    refine lc_acc (walk_kx (d := d) (o := od) (kvs := ents o)) (by rw [tab_len]; exact Nat.le_trans (by omega : o.length ≤ 3000) (by decide)) hD (fun H' s' => s' _ _ frz0) (fun i acc H' => Ea H' isR acc ((LF.laid (LF.mg rows) o).take i)) (fun i acc H' e => by rw [e.1, List.length_take]; omega) (by rw [List.take_zero]; exact Ea.nil) (fun i x H' acc Φ Ψ hi hx sm hd' he kf => ?_) fun H5 acc s5 hd5 he5 => ?_
    · rw [ents_keys] at hx
      unfold natsV at hx
      rw [List.getElem?_map, Option.map_eq_some_iff] at hx
      obtain ⟨z, hz, rfl⟩ := hx
      have hzm := List.mem_of_getElem? hz
      have hzl := hord.lt z hzm
      have hr' : (LF.mg rows)[z]? = some (LF.mg rows)[z] := List.getElem?_eq_getElem hzl
      obtain ⟨c, hxc, hcc⟩ := hEf.get hr'
      obtain ⟨q1, q2⟩ := hclo z hzm _ hr'
      refine ⟨rfl, ?_⟩
      dsimp only [tYes]
      rw [if_pos rfl]
      refine ⟨_, rfl, _, rfl, M, _, _, _, rfl, rfl, SqL.of (sm _ _ hMf), atI_nat hxc, _, rfl, c, d, _, o, rfl, sm _ _ hcc, .inr ⟨od, sm _ _ frz0⟩, q1, q2, fun t H6 s6 ht6 => kf _ H6 s6 (s6 _ _ hd') fun H7 h7 b1 b2 => ?_⟩
      have hg : (LF.laid (LF.mg rows) o)[i]? = some (LF.renum (LF.ix o) (LF.mg rows)[z]) := by
        unfold LF.laid
        rw [LF.laid_get _ hord.lt, hz]
        simp [hr']
      rw [L2.take_succ' hg]
      exact Ea.push (he.imp fun c' r' q => b1 _ _ (ne_of (s6 _ _ q) (s6 _ _ hd') (by intro z; cases z)) (s6 _ _ q)) (b1 _ _ (ne_of ht6 (s6 _ _ hd') (by intro z; cases z)) ht6)
    rw [tab_len, ← hlg, List.take_length] at he5
    refine ⟨s5 _ _ frz0, ?_⟩
    have hdn : H4 Dd = none := by
      by_cases e : Dd = d
      · rw [e] at hD
        rw [frz0] at hD
        cases hD
      · rw [← hFz, upd_ne e] at hD
        exact hD
    have nDd : Dd ≠ d := fun e => by rw [e, hd4] at hdn; cases hdn
    have s45 : Same H4 (upd H5 d (.dK (ents o))) := fun c o' e => by
      by_cases hc : c = d
      · subst hc
        rw [hd4] at e
        cases e
        exact upd_same
      · rw [upd_ne hc]
        exact s5 _ _ (hEv _ _ e hc)
    have hDd5 : (upd H5 d (.dK (ents o))) Dd = some (.lst acc) := by rw [upd_ne nDd]; exact hd5
    have he6 : Ea (upd H5 d (.dK (ents o))) isR acc (LF.laid (LF.mg rows) o) := he5.imp fun c r q => by
      have : H5 c = some (.tup (rv (rz r))) := q
      show (upd H5 d (.dK (ents o))) c = some (.tup (rv (rz r)))
      rw [upd_ne (ne_of this (s5 _ _ frz0) (by intro z; cases z))]
      exact this
    have hd6 : (upd H5 d (.dK (ents o))) d = some (.dK (ents o)) := upd_same
    generalize upd H5 d (.dK (ents o)) = H6 at s45 hDd5 he6 hd6
    refine ⟨Dd, _, rfl, .inl ⟨SqL.of hDd5, fun T1 hT1 => ?_⟩⟩
    have e1 := Same.new (o := .tup acc) hT1
    have hB6 := e1 _ _ (s45 _ _ (s4 _ _ hB3))
    have hT11 : (upd H6 T1 (.tup acc)) T1 = some (.tup acc) := upd_same
    have he7 : Ea (upd H6 T1 (.tup acc)) isR acc (LF.laid (LF.mg rows) o) := he6.imp fun c r q => e1 _ _ q
    have hd7 := e1 _ _ hd6
    have s47 := s45.trans e1
    generalize upd H6 T1 (.tup acc) = H7 at hB6 hT11 he7 hd7 s47
    refine ⟨_, rfl, _, rfl, Bd, rfl, ⟨_, SqL.of hB6⟩, fun De hDe => ?_⟩
    refine lc_same (xs := natsV b) (walk_l (K := K) (a := Bd) (xs := natsV b)) (by unfold natsV; rw [List.length_map, hblen]; exact Nat.le_trans hs100 (by decide)) hDe (fun H' s' => SqL.of (s' _ _ hB6)) (natsV (b.map (LF.ix o))) (by unfold natsV; simp) (fun i x y H' Φ Ψ hx hy sm kf => ?_) fun H8 s8 hd8 => ?_
    · unfold natsV at hx hy
      rw [List.getElem?_map, Option.map_eq_some_iff] at hx
      obtain ⟨z, hz, rfl⟩ := hx
      rw [List.getElem?_map, List.getElem?_map, hz] at hy
      cases hy
      have hzo := hord.all z (List.mem_of_getElem? hz)
      have hv := ents_val o z
      rw [if_pos hzo] at hv
      refine ⟨rfl, ?_⟩
      dsimp only [tYes]
      rw [if_pos rfl]
      exact ⟨_, rfl, _, rfl, d, _, rfl, .inl ⟨ents o, ki z, .inl (sm _ _ hd7), rfl, hv.symm⟩, kf H' fun _ _ e => e⟩
    refine ⟨De, _, rfl, .inl ⟨SqL.of hd8, fun T2 hT2 => ⟨by show 2 ≤ sizeLine; decide, fun tp htp => ?_⟩⟩⟩
    have e2 := Same.new (o := .tup (natsV (b.map (LF.ix o)))) hT2
    have e3 := Same.new (o := .tup [.ref T1, .ref T2]) htp
    have e23 := s8.trans (e2.trans e3)
    refine kk tp T1 T2 acc _ upd_same (e23 _ _ hT11) ?_ ?_ ((s12.trans s3).trans ((s4.trans s47).trans e23))
    · rw [hlf]
      exact he7.imp fun c r q => e23 _ _ q
    · rw [hlf]
      exact e3 _ _ upd_same
end
end PA

/-! the walk over all pairs of states that come: it tells two tables apart -/
namespace LF
variable {L : Type} [DecidableEq L]
def fl (r : Row L) (b : Bool) : L := if b = true then r.2.2.2 else r.2.1
def nx (r : Row L) (b : Bool) : Nat := if b = true then r.2.2.1 else r.1
def Ok2 (A B : List (Row L)) (sn : List (Nat × Nat)) (p : Nat × Nat) (b : Bool) : Prop := ∀ r r', A[p.1]? = some r → B[p.2]? = some r' → fl r b = fl r' b ∧ (nx r b, nx r' b) ∈ sn
structure UI (A B : List (Row L)) (S : List (Nat × Nat)) (at' : Nat) (wt sn : List (Nat × Nat)) : Prop where
  rng : ∀ p ∈ wt, p.1 < A.length ∧ p.2 < B.length
  snd : (∀ p ∈ S, Alk A p.1 B p.2) → ∀ p ∈ wt, Alk A p.1 B p.2
  sub : ∀ p ∈ sn, p ∈ wt
  fro : ∀ p ∈ S, p ∈ wt
  nd : sn.Nodup
  len : wt.length = S.length + sn.length
  don : ∀ i < at', ∀ p, wt[i]? = some p → ∀ b, Ok2 A B sn p b
variable {A B : List (Row L)} {S wt sn : List (Nat × Nat)} {at' : Nat}
theorem nx_lt (oA : TOk A) {a : Nat} {r : Row L} (h : A[a]? = some r) (b : Bool) : nx r b < A.length := by
  have := oA r (List.mem_of_getElem? h)
  unfold nx
  split
  · exact this.2
  · exact this.1
theorem UI.start (hS : ∀ p ∈ S, p.1 < A.length ∧ p.2 < B.length) : UI A B S 0 S [] :=
  ⟨hS, fun h => h, (by intro p hp; cases hp), fun p hp => hp, List.nodup_nil, by simp, fun i hi => absurd hi (Nat.not_lt_zero _)⟩
theorem alk_nx {p : Nat × Nat} {r r' : Row L} (h : Alk A p.1 B p.2) (hr : A[p.1]? = some r) (hr' : B[p.2]? = some r') (b : Bool) : fl r b = fl r' b ∧ Alk A (nx r b) B (nx r' b) := by
  refine ⟨?_, fun w => ?_⟩
  · have := h [b]
    rw [out_cons hr, out_cons hr'] at this
    injection this with this
    injection this
  · have := h (b :: w)
    rw [out_cons hr, out_cons hr'] at this
    injection this
theorem UI.push (u : UI A B S at' wt sn) (oA : TOk A) (oB : TOk B) (ha : at' < wt.length) {p : Nat × Nat} (hp : p ∈ wt) {r r' : Row L} (hr : A[p.1]? = some r) (hr' : B[p.2]? = some r') (b : Bool) (h : ¬ (nx r b, nx r' b) ∈ sn) : UI A B S at' (wt ++ [(nx r b, nx r' b)]) (sn ++ [(nx r b, nx r' b)]) := by
  refine ⟨fun q hq => ?_, fun g q hq => ?_, fun q hq => ?_, fun q hq => List.mem_append_left _ (u.fro q hq), ?_, ?_, fun i hi q hq c => ?_⟩
  · rcases List.mem_append.mp hq with hq | hq
    · exact u.rng q hq
    · cases List.mem_singleton.mp hq
      exact ⟨nx_lt oA hr b, nx_lt oB hr' b⟩
  · rcases List.mem_append.mp hq with hq | hq
    · exact u.snd g q hq
    · cases List.mem_singleton.mp hq
      exact (alk_nx (u.snd g p hp) hr hr' b).2
  · rcases List.mem_append.mp hq with hq | hq
    · exact List.mem_append_left _ (u.sub q hq)
    · exact List.mem_append_right _ hq
  · rw [List.nodup_append]
    refine ⟨u.nd, (by simp), fun x hx y hy => ?_⟩
    cases List.mem_singleton.mp hy
    rintro rfl
    exact h hx
  · rw [List.length_append, List.length_append, u.len]
    simp [Nat.add_assoc]
  · rw [List.getElem?_append_left (by omega)] at hq
    intro s s' hs hs'
    obtain ⟨h1, h2⟩ := u.don i hi q hq c s s' hs hs'
    exact ⟨h1, List.mem_append_left _ h2⟩
theorem UI.next (u : UI A B S at' wt sn) {p : Nat × Nat} (hp : wt[at']? = some p) (h : ∀ b, Ok2 A B sn p b) : UI A B S (at' + 1) wt sn :=
  ⟨u.rng, u.snd, u.sub, u.fro, u.nd, u.len, fun i hi q hq => by
    by_cases e : i = at'
    · subst e
      rw [hp] at hq
      cases hq
      exact h
    · exact u.don i (by omega) q hq⟩
theorem UI.done (u : UI A B S wt.length wt sn) : ∀ p ∈ S, Alk A p.1 B p.2 := by
  have all : ∀ (w : List Bool) (p : Nat × Nat), p ∈ wt → out A p.1 w = out B p.2 w := by
    intro w
    induction w with
    | nil => intro p _; simp [out]
    | cons b w ih =>
      intro p hp
      obtain ⟨i, hi, hi'⟩ := List.getElem_of_mem hp
      obtain ⟨h1, h2⟩ := u.rng p hp
      have hr := List.getElem?_eq_getElem h1
      have hr' := List.getElem?_eq_getElem h2
      obtain ⟨q1, q2⟩ := u.don i hi p (by rw [List.getElem?_eq_getElem hi, hi']) b _ _ hr hr'
      rw [out_cons hr, out_cons hr']
      have := ih _ (u.sub _ q2)
      unfold nx at this
      unfold fl at q1
      rw [q1, this]
  exact fun p hp w => all w p (u.fro p hp)
theorem UI.differ (u : UI A B S at' wt sn) {p : Nat × Nat} (hp : p ∈ wt) {r r' : Row L} (hr : A[p.1]? = some r) (hr' : B[p.2]? = some r') (b : Bool) (h : fl r b ≠ fl r' b) : ¬ ∀ p ∈ S, Alk A p.1 B p.2 :=
  fun g => h (alk_nx (u.snd g p hp) hr hr' b).1
theorem UI.size (u : UI A B S at' wt sn) : wt.length ≤ S.length + A.length * B.length := by
  rw [u.len]
  refine Nat.add_le_add_left ?_ _
  have nd : (sn.map fun p => p.1 * B.length + p.2).Nodup := by
    have hr : ∀ p ∈ sn, p.2 < B.length := fun p hp => (u.rng p (u.sub p hp)).2
    have : ∀ {l : List (Nat × Nat)}, l.Nodup → (∀ p ∈ l, p.2 < B.length) → (l.map fun p => p.1 * B.length + p.2).Nodup := by
      intro l
      induction l with
      | nil => intro _ _; exact List.nodup_nil
      | cons p l ih =>
        intro n g
        rw [List.nodup_cons] at n
        rw [List.map_cons, List.nodup_cons]
        refine ⟨fun z => ?_, ih n.2 fun q hq => g q (List.mem_cons_of_mem _ hq)⟩
        obtain ⟨q, hq, e⟩ := List.mem_map.mp z
        have g1 := g p (List.mem_cons_self ..)
        have g2 := g q (List.mem_cons_of_mem _ hq)
        have e2 : q.2 = p.2 := by
          have := congrArg (· % B.length) e
          simpa [Nat.mul_add_mod', Nat.mod_eq_of_lt g1, Nat.mod_eq_of_lt g2] using this
        have e1 : q.1 = p.1 := by
          rw [e2] at e
          have : q.1 * B.length = p.1 * B.length := by omega
          exact Nat.eq_of_mul_eq_mul_right (by omega) this
        have : q = p := by
          cases q
          cases p
          simp only at e1 e2
          rw [e1, e2]
        rw [this] at hq
        exact n.1 hq
    exact this u.nd hr
  have := few (A.length * B.length) nd fun x hx => by
    obtain ⟨p, hp, rfl⟩ := List.mem_map.mp hx
    obtain ⟨g1, g2⟩ := u.rng p (u.sub p hp)
    have : (p.1 + 1) * B.length ≤ A.length * B.length := Nat.mul_le_mul_right _ g1
    rw [Nat.add_mul] at this
    omega
  rw [List.length_map] at this
  exact this
end LF

set_option maxHeartbeats 8000000
namespace PA
open PySem L2 RZ
open C8 (pss_cut tCut)
/-! ### the walk -/
abbrev prV (p : Nat × Nat) : List V := [.int ((p.1 : Nat) : Int), .int ((p.2 : Nat) : Int)]
abbrev isP : Hp → Addr → Nat × Nat → Prop := TupOf prV
def pk (p : Nat × Nat) : LKey := [.num ((p.1 : Nat) : Int), .num ((p.2 : Nat) : Int)]
theorem pk_inj {p q : Nat × Nat} (h : pk p = pk q) : p = q := by
  obtain ⟨a, b⟩ := p
  obtain ⟨c, d⟩ := q
  simp [pk] at h
  obtain ⟨h1, h2⟩ := h
  have h1 : a = c := by omega
  have h2 : b = d := by omega
  subst h1
  subst h2
  rfl
theorem isP.key {H : Hp} {c : Addr} {p : Nat × Nat} (h : isP H c p) : KeyAt H c (pk p) := ⟨_, h, .cons (.inl rfl) (.cons (.inl rfl) .nil)⟩
theorem pk_val (sn : List (Nat × Nat)) (p : Nat × Nat) : (valV (sn.map fun q => (pk q, V.bl true)) (pk p)).isSome = decide (p ∈ sn) := by
  induction sn with
  | nil => simp [valV]
  | cons q sn ih =>
    rw [List.map_cons]
    by_cases e : pk q = pk p
    · rw [valV_pos e, pk_inj e]
      simp
    · rw [valV_neg e, ih]
      have : ¬ p = q := fun z => e (by rw [z])
      simp [this]
structure SideAt (K : PySem.W.Frag) (H : Hp) (R : Addr) (A : List Rn) : Prop where
  ex : ∃ k refs, Sk K k H R refs ∧ ∃ k' : L2.Kind, Ea H (fun H c r => Sk K k' H c (rv (rz r))) refs A
theorem Sk.same {K : PySem.W.Frag} {k : L2.Kind} {H H' : Hp} {a : Addr} {xs : List V} (h : Sk K k H a xs) (s : Same H H') : Sk K k H' a xs := h.up s
theorem SideAt.same {K : PySem.W.Frag} {H H' : Hp} {R : Addr} {A : List Rn} (h : SideAt K H R A) (s : Same H H') : SideAt K H' R A := by
  obtain ⟨k, refs, h1, k', h2⟩ := h
  exact ⟨k, refs, h1.up s, k', h2.imp fun c r q => Sk.same q s⟩
/-- how the walk stands: the list of pairs, the dict of those seen -/
structure LI (P : Program) (w : World) (H H' : Hp) (W Dd : Addr) (A B : List Rn) (S : List (Nat × Nat)) (at' : Nat) (wt sn : List (Nat × Nat)) (acc : List V) (kvs : List DE) : Prop where
  sm : Same H H'
  hW : H' W = some (.lst acc)
  eW : Ea H' isP acc wt
  hD : H' Dd = some (DX P w Dd kvs)
  ka : ∀ p ∈ kvs, KeyAt H' p.2.1 p.1
  em : kvs.map (fun p => (p.1, p.2.2)) = sn.map fun q => (pk q, V.bl true)
  ui : LF.UI A B S at' wt sn
theorem LI.same {P : Program} {w : World} {H H' H2 : Hp} {W Dd : Addr} {A B : List Rn} {S : List (Nat × Nat)} {at' : Nat} {wt sn : List (Nat × Nat)} {acc : List V} {kvs : List DE} (I : LI P w H H' W Dd A B S at' wt sn acc kvs) (s : Same H' H2) : LI P w H H2 W Dd A B S at' wt sn acc kvs :=
  ⟨I.sm.trans s, s _ _ I.hW, I.eW.imp fun c r q => s _ _ q, s _ _ I.hD, fun p hp => (I.ka p hp).kt fun b ys e => s _ _ e, I.em, I.ui⟩
theorem ixk {K : PySem.W.Frag} {k : L2.Kind} {H : Hp} {R : Addr} {refs : List V} {i : Int} {x : V} {Q : VK} (h : Sk K k H R refs) (e : atI refs i = some x) (q : Q x H) : rIxL K (.ref R) (.int i) H Q ∨ rIxT K (.ref R) (.int i) H Q := by
  cases k with
  | l => exact .inl ⟨R, _, i, x, rfl, rfl, h, e, q⟩
  | t => exact .inr ⟨R, _, i, x, rfl, rfl, h, e, q⟩
theorem SideAt.row {K : PySem.W.Frag} {H : Hp} {R : Addr} {A : List Rn} (h : SideAt K H R A) {a : Nat} {r : Rn} (hr : A[a]? = some r) : ∃ k refs c k', Sk K k H R refs ∧ atI refs (a : Int) = some (.ref c) ∧ Sk K k' H c (rv (rz r)) := by
  obtain ⟨k, refs, h1, k', h2⟩ := h
  obtain ⟨c, hc, q⟩ := h2.get hr
  exact ⟨k, refs, c, k', h1, atI_nat hc, q⟩
end PA

set_option maxHeartbeats 8000000
namespace PA
open PySem L2 RZ
open C8 (pss_cut tCut)
theorem mk_rule {K : PySem.W.Frag} {C : Addr} {H : Hp} {Q : VK} {E : XK} {G S : Addr} {refs : List V} {rows : List Rw} {starts : List Int} {k : Int} (hG : Sq K H G refs) (hE : Each H isLT refs rows) (hS : Sq K H S (starts.map V.int)) (gd : Good rows starts k)
    {x dx : Addr} (nx : H x = none) (ndx : H dx = none) (nex : dx ≠ x) (kk : ∀ H', Same H H' → RuleAt K C H' x rows starts k → Q .non H') :
    spInit K C [V.ref x, V.ref G, V.ref S] (upd (upd H dx (.own x)) x (.ins C dx [])) Q E := by
  have s1 : Same H (upd (upd H dx (.own x)) x (.ins C dx [])) := fun c o e => by
    rw [upd_ne (ne_of_none e nx), upd_ne (ne_of_none e ndx)]
    exact e
  refine ⟨x, dx, G, S, refs, rows, starts, k, rfl, upd_same, hG.up s1, hE.sameLT s1, hS.up s1, gd, fun H' ⟨R, S', refs', h1, h2, h3, h4⟩ kp => kk H' (fun c o e => kp c o (s1 _ _ e) (ne_of_none e nx)) ⟨dx, R, S', refs', h1, h2, h3, h4⟩⟩
abbrev stZ (st : List Nat) : List Int := st.map fun (n : Nat) => (n : Int)
structure GoodN (rn : List Rn) (st : List Nat) (k : Int) : Prop where
  ok : LF.TOk rn
  so : ∀ x ∈ st, x < rn.length
  most : rn.length ≤ 48
  root : Root (st.length : Int) k
theorem root_ne {n : Int} {k : Int} (r : Root n k) : 1 ≤ n ∧ n ≤ 16 := by cases r <;> decide
theorem GoodN.good {rn : List Rn} {st : List Nat} {k : Int} (g : GoodN rn st k) : Good (rn.map rz) (stZ st) k := by
  obtain ⟨r1, r2⟩ := root_ne g.root
  refine ⟨?_, by rw [List.length_map]; exact g.most, fun r hr => ?_, by unfold stZ; rw [List.length_map]; exact g.root, fun s hs => ?_⟩
  · rw [List.length_map]
    match st, g, r1 with
    | [], _, r1 => simp at r1
    | s :: _, g, _ => have := g.so s (List.mem_cons_self ..); omega
  · obtain ⟨z, hz, rfl⟩ := List.mem_map.mp hr
    have := g.ok z hz
    rw [List.length_map]
    show (0 ≤ (z.1 : Int) ∧ (z.1 : Int) < _) ∧ 0 ≤ (z.2.2.1 : Int) ∧ (z.2.2.1 : Int) < _
    omega
  · obtain ⟨z, hz, rfl⟩ := List.mem_map.mp hs
    have := g.so z hz
    rw [List.length_map]
    omega
theorem GoodN.lf {rn : List Rn} {st : List Nat} {k : Int} (g : GoodN rn st k) : GoodN (LF.lf rn st).1 (LF.lf rn st).2 k :=
  ⟨LF.laid_ok g.ok g.so, LF.lf_st g.ok g.so, Nat.le_trans (LF.lf_le g.ok g.so) g.most, by rw [LF.lf_len]; exact g.root⟩
def RuleZ (K : PySem.W.Frag) (C : Addr) (H : Hp) (p : Addr) (rn : List Rn) (st : List Nat) (k : Int) : Prop := RuleAt K C H p (rn.map rz) (stZ st) k
theorem natsV_snoc (ns : List Nat) (z : Nat) : natsV ns ++ [.int (z : Int)] = natsV (ns ++ [z]) := by
  unfold natsV
  rw [List.map_append]
  rfl
theorem pe_fldF {X : Cx} {K : PySem.W.Frag} (hK : X.K = K) {e : PySem.Expr} {f : Str} {pos : Pos} {ta : TE} (h : PE X e ta) (h2 : attributeBase e f X.env (eval e X.env) = eval e X.env := by rfl) : PE X (e.Attribute f pos) (tFld K ta f) := by
  subst hK
  exact pe_fld h h2
theorem rg0 (n : Nat) : rgV 0 ((n : Nat) : Int) = natsV (List.range n) := by
  unfold rgV natsV
  rw [show (((n : Nat) : Int) - 0).toNat = n by omega]
  simp
theorem RuleZ.side {K : PySem.W.Frag} {C : Addr} {H : Hp} {p : Addr} {rn : List Rn} {st : List Nat} {k : Int} (h : RuleZ K C H p rn st k) : ∃ dx R S refs, H p = some (.ins C dx (rf R S k)) ∧ H R = some (.tup refs) ∧ refs.length = rn.length ∧ SideAt K H R rn ∧ SqT K H S (natsV st) := by
  obtain ⟨dx, R, S, refs, h1, h2, h3, h4⟩ := h
  have hl : refs.length = rn.length := by have := h3.1; rw [List.length_map] at this; exact this
  refine ⟨dx, R, S, refs, h1, h2, hl, ⟨.t, refs, SqT.of h2, .t, hl, fun i x r hx hr => ?_⟩, by rw [natsV_ints]; exact h4⟩
  obtain ⟨c, hc, q⟩ := h3.2 i x (rz r) hx (by rw [List.getElem?_map, hr]; rfl)
  exact ⟨c, hc, SqT.of q⟩
end PA

set_option maxHeartbeats 8000000
namespace PA
open PySem L2 RZ
open C8 (pss_cut tCut)
theorem Each.get {H : Hp} {P : Hp → Addr → Rw → Prop} {xs : List V} {rows : List Rw} (e : Each H P xs rows) {i : Nat} {r : Rw} (h : rows[i]? = some r) : ∃ c, xs[i]? = some (.ref c) ∧ P H c r := by
  have hi : i < xs.length := by rw [e.1]; exact (List.getElem?_eq_some_iff.mp h).1
  obtain ⟨c, hc, q⟩ := e.2 i _ r (List.getElem?_eq_getElem hi) h
  exact ⟨c, by rw [List.getElem?_eq_getElem hi, hc], q⟩
def mv (r : Rw) (b : Bool) : List V := if b = true then [.int r.2.2.1, .bl r.2.2.2] else [.int r.1, .bl r.2.1]
def spStep (K : PySem.W.Frag) (C : Addr) : Sp := fun vs H Q _ => ∃ (p : Addr) (rows : List Rw) (starts : List Int) (k : Int) (i : Nat) (b : Bool) (r : Rw), vs = [.ref p, .int (i : Int), .bl b] ∧ RuleAt K C H p rows starts k ∧ rows[i]? = some r ∧
  ∀ t H', Same H H' → H' t = some (.tup (mv r b)) → Q (.ref t) H'
section
variable {P : Program} {w : World} {K : PySem.W.Frag} {mg : Str → Option Value} {base : Heap} {C : Addr}
theorem scStep : FnScope ["self", "state", "behind", "next_ahead", "falls", "next_behind", "goes"] ["self", "state", "behind"] (defScope sStep) := ⟨rfl, rfl, rfl, by decide +kernel, rfl, by decide +kernel, by decide +kernel⟩
theorem ok_step {f : Addr} {fd : FuncData} (F : Fun K "step" "Rule.step" sStep f fd) (T : Txt K mg C) : FnOk P w K mg base CX0 1 f fd ["self", "state", "behind"] (spStep K C) := by
  refine F.ok scStep (fun vs H Q E h => ?_) (fun cdv A outer s H vs Q E hr h => ?_)
  · obtain ⟨p, _, _, _, _, _, _, rfl, _⟩ := h
    rfl
  · obtain ⟨p, rows, starts, k, i, b, ⟨ra, rb, rc, rd⟩, rfl, ⟨dx, R, S, refs, hp, hR, hE, hS⟩, hi, kk⟩ := h
    obtain ⟨c, hc, hcr⟩ := hE.get hi
    refine ⟨_, pss_cons (ps_asg (pe_ix ix_tup (pe_fld (pv 0) rfl) (pv 1) (fun _ _ => rfl)) (pg_tup rfl (pgs_cons (pg_name (i := 3) scStep.nd rfl (Or.inl rfl)) (pgs_cons (pg_name (i := 4) scStep.nd rfl (Or.inl rfl)) (pgs_cons (pg_name (i := 5) scStep.nd rfl (Or.inl rfl)) (pgs_cons (pg_name (i := 6) scStep.nd rfl (Or.inl rfl)) pgs_nil))))))
      (pss_cons (ps_if (pt_val (pv 2)) (pss_one (ps_ret (pe_tup (pa_cons (pv 5) (pa_cons (pv 6) pa_nil))))) pss_nil)
      (pss_one (ps_ret (pe_tup (pa_cons (pv 3) (pa_cons (pv 4) pa_nil)))))), ?_⟩
    refine ⟨_, rfl, p, C, dx, _, _, rfl, hp, T.cl, T.nR, rf_rows _ _ _, _, rfl, R, _, _, _, rfl, rfl, SqT.of hR, atI_nat hc, ?_⟩
    refine ⟨c, _, rfl, SqT.of hcr, rfl, _, _, rfl, _, _, rfl, _, _, rfl, _, _, rfl, rfl, ?_⟩
    refine ⟨_, rfl, b, rfl, ?_⟩
    cases b with
    | true =>
      refine iteT ⟨_, rfl, _, rfl, by show 2 ≤ sizeLine; decide, fun tp htp => ?_⟩
      exact kk tp _ (Same.new htp) upd_same
    | false =>
      refine iteF ⟨_, rfl, _, rfl, by show 2 ≤ sizeLine; decide, fun tp htp => ?_⟩
      exact kk tp _ (Same.new htp) upd_same
end

end PA

/-! the first find of a search by three calls: what is like an earlier one, by a renaming of the calls, may be dropped -/
namespace RG3
structure Sys (N : Type) where
  M : Nat
  rt : Nat → N
  stp : N → Nat → N
  bad : N → Nat → Prop
  Rel : N → N → Prop
  hM : 0 < M
  refl : ∀ n, Rel n n
  trans : ∀ a b c, Rel a b → Rel b c → Rel a c
  sim : ∀ n m, Rel n m → ∀ c, c < 3 → ∃ c', c' < 3 ∧ (bad n c → bad m c') ∧ (¬ bad n c → Rel (stp n c) (stp m c'))
variable {N : Type} (S : Sys N)
/-- paths as numbers: below M the beginnings, behind them 3 p + M + (0, 1 or 2) -/
def nd (p : Nat) : N := if h : p < S.M then S.rt p else S.stp (nd ((p - S.M) / 3)) ((p - S.M) % 3)
termination_by p
decreasing_by have := S.hM; omega
def calls (p : Nat) : List Nat := if h : p < S.M then [] else calls ((p - S.M) / 3) ++ [(p - S.M) % 3]
termination_by p
decreasing_by have := S.hM; omega
def root (p : Nat) : Nat := if h : p < S.M then p else root ((p - S.M) / 3)
termination_by p
decreasing_by have := S.hM; omega
def child (p c : Nat) : Nat := 3 * p + S.M + c
variable {S}
theorem child_ge (p c : Nat) : S.M ≤ child S p c := by unfold child; omega
theorem child_par {p c : Nat} (hc : c < 3) : (child S p c - S.M) / 3 = p ∧ (child S p c - S.M) % 3 = c := by unfold child; omega
theorem nd_child {p c : Nat} (hc : c < 3) : nd S (child S p c) = S.stp (nd S p) c := by
  have h := child_ge (S := S) p c
  rw [nd, dif_neg (by omega), (child_par hc).1, (child_par hc).2]
theorem calls_child {p c : Nat} (hc : c < 3) : calls S (child S p c) = calls S p ++ [c] := by
  have h := child_ge (S := S) p c
  rw [calls, dif_neg (by omega), (child_par hc).1, (child_par hc).2]
theorem root_child {p c : Nat} (hc : c < 3) : root S (child S p c) = root S p := by
  have h := child_ge (S := S) p c
  rw [root, dif_neg (by omega), (child_par hc).1]
theorem nd_root {p : Nat} (h : p < S.M) : nd S p = S.rt p := by rw [nd, dif_pos h]
theorem calls_root {p : Nat} (h : p < S.M) : calls S p = [] := by rw [calls, dif_pos h]
theorem root_root {p : Nat} (h : p < S.M) : root S p = p := by rw [root, dif_pos h]
theorem root_lt (p : Nat) : root S p < S.M := by
  induction p using Nat.strongRecOn with
  | _ p ih =>
    by_cases h : p < S.M
    · rw [root_root h]; exact h
    · rw [root, dif_neg h]
      have := S.hM
      exact ih _ (by omega)
theorem path_cases {p : Nat} (h : ¬ p < S.M) : ∃ q c, c < 3 ∧ p = child S q c ∧ q < p := by
  have := S.hM
  refine ⟨(p - S.M) / 3, (p - S.M) % 3, by omega, ?_, by omega⟩
  unfold child
  omega
/-- behind this path the call c makes a ring -/
def Pt (S : Sys N) (p c : Nat) : Prop := S.bad (nd S p) c
/-- the first such path and call -/
def Res (S : Sys N) : Option (Nat × Nat) → Prop
  | none => ∀ p c, c < 3 → ¬ Pt S p c
  | some (p, c) => c < 3 ∧ Pt S p c ∧ (∀ q d, d < 3 → q < p → ¬ Pt S q d) ∧ ∀ d, d < c → ¬ Pt S p d
theorem Res.unique : ∀ {o o' : Option (Nat × Nat)}, Res S o → Res S o' → o = o'
  | none, none, _, _ => rfl
  | none, some (p, c), h, h' => absurd h'.2.1 (h p c h'.1)
  | some (p, c), none, h, h' => absurd h.2.1 (h' p c h.1)
  | some (p, c), some (q, d), h, h' => by
    have e : p = q := by
      rcases Nat.lt_trichotomy p q with l | l | l
      · exact absurd h.2.1 (h'.2.2.1 p c h.1 l)
      · exact l
      · exact absurd h'.2.1 (h.2.2.1 q d h'.1 l)
    subst e
    have e2 : c = d := by
      rcases Nat.lt_trichotomy c d with l | l | l
      · exact absurd h.2.1 (h'.2.2.2 c l)
      · exact l
      · exact absurd h'.2.1 (h.2.2.2 d l)
    rw [e2]
/-- how a search stands: W all that was put in, d the next, X what was led on -/
structure BI (S : Sys N) (W : List Nat) (d : Nat) (X : List Nat) : Prop where
  so : W.Pairwise (· < ·)
  ini : ∀ a, a < S.M → a ∈ W
  lt : ∀ x ∈ W, x < S.M ∨ ∃ y ∈ X, ∃ c, c < 3 ∧ x = child S y c
  xd : ∀ x ∈ X, ∃ i : Nat, i < d ∧ W[i]? = some x
  np : ∀ x ∈ X, ∀ c, c < 3 → ¬ Pt S x c
  ch : ∀ x ∈ X, ∀ c, c < 3 → ∃ r ∈ W, r ≤ child S x c ∧ S.Rel (nd S (child S x c)) (nd S r)
  dom : ∀ p, (∀ e, W[d]? = some e → p < e) → ∃ q ∈ X, q ≤ p ∧ S.Rel (nd S p) (nd S q)
theorem Pt.of {p q c : Nat} (hc : c < 3) (h : Pt S p c) (e : S.Rel (nd S p) (nd S q)) : ∃ c', c' < 3 ∧ Pt S q c' := by
  obtain ⟨c', h1, h2, _⟩ := S.sim _ _ e c hc
  exact ⟨c', h1, h2 h⟩
theorem BI.found {W X : List Nat} {d e c : Nat} (b : BI S W d X) (he : W[d]? = some e) (hc : c < 3) (h : Pt S e c) (h0 : ∀ k, k < c → ¬ Pt S e k) : Res S (some (e, c)) := by
  refine ⟨hc, h, fun q k hk hq hp => ?_, h0⟩
  obtain ⟨x, hx, _, e1⟩ := b.dom q fun e' h' => by rw [he] at h'; cases h'; exact hq
  obtain ⟨c', h1, h2⟩ := Pt.of hk hp e1
  exact b.np x hx c' h1 h2
theorem BI.none {W X : List Nat} {d : Nat} (b : BI S W d X) (h : W.length ≤ d) : Res S none := by
  intro p c hc hp
  obtain ⟨x, hx, _, e1⟩ := b.dom p fun e h' => by
    have := (List.getElem?_eq_some_iff.mp h').1
    omega
  obtain ⟨c', h1, h2⟩ := Pt.of hc hp e1
  exact b.np x hx c' h1 h2
theorem idx_lt {W : List Nat} (so : W.Pairwise (· < ·)) {i j x y : Nat} (hi : W[i]? = some x) (hj : W[j]? = some y) (h : i < j) : x < y := by
  obtain ⟨li, ei⟩ := List.getElem?_eq_some_iff.mp hi
  obtain ⟨lj, ej⟩ := List.getElem?_eq_some_iff.mp hj
  have := List.pairwise_iff_getElem.mp so i j li lj h
  omega
/-- one more has been taken -/
theorem BI.next {W X W' X' : List Nat} {d e : Nat} (b : BI S W d X) (he : W[d]? = some e) (so : W'.Pairwise (· < ·)) (pre : ∀ (i x : Nat), W[i]? = some x → W'[i]? = some x)
    (lt : ∀ x ∈ W', x < S.M ∨ ∃ y ∈ X', ∃ c, c < 3 ∧ x = child S y c) (sub : ∀ x ∈ X, x ∈ X') (xd : ∀ x ∈ X', x ∈ X ∨ x = e) (np : ∀ x ∈ X', ∀ c, c < 3 → ¬ Pt S x c)
    (ch : ∀ x ∈ X', ∀ c, c < 3 → ∃ r ∈ W', r ≤ child S x c ∧ S.Rel (nd S (child S x c)) (nd S r)) (de : ∃ q ∈ X', q ≤ e ∧ S.Rel (nd S e) (nd S q)) : BI S W' (d + 1) X' := by
  have he' := pre _ _ he
  have key : ∀ r, r ∈ W' → (∀ e', W'[d + 1]? = some e' → r < e') → ∃ q ∈ X', q ≤ r ∧ S.Rel (nd S r) (nd S q) := by
    intro r hr hlt
    obtain ⟨i, hi⟩ := List.getElem?_of_mem hr
    have hid : i ≤ d := by
      rcases Nat.lt_or_ge d i with q | q
      · exfalso
        have li := (List.getElem?_eq_some_iff.mp hi).1
        have hx : W'[d + 1]? = some W'[d + 1] := List.getElem?_eq_getElem (by omega)
        have l1 := hlt _ hx
        rcases Nat.lt_or_ge (d + 1) i with q2 | q2
        · have := idx_lt so hx hi q2
          omega
        · have : i = d + 1 := by omega
          subst this
          rw [hi] at hx
          injection hx with hx
          omega
      · exact q
    rcases Nat.lt_or_ge i d with q | q
    · have hre : r < e := idx_lt so hi he' q
      obtain ⟨x, hx, h1, h2⟩ := b.dom r fun e' h' => by rw [he] at h'; cases h'; exact hre
      exact ⟨x, sub x hx, h1, h2⟩
    · have : i = d := by omega
      subst this
      rw [he'] at hi
      cases hi
      exact de
  refine ⟨so, fun a ha => ?_, lt, fun x hx => ?_, np, ch, fun p => ?_⟩
  · obtain ⟨i, hi⟩ := List.getElem?_of_mem (b.ini a ha)
    exact List.mem_of_getElem? (pre i a hi)
  · rcases xd x hx with h | rfl
    · obtain ⟨i, h1, h2⟩ := b.xd x h
      exact ⟨i, by omega, pre _ _ h2⟩
    · exact ⟨d, by omega, he'⟩
  · induction p using Nat.strongRecOn with
    | _ p ih =>
      intro hp
      by_cases hpM : p < S.M
      · refine key p ?_ hp
        obtain ⟨i, hi⟩ := List.getElem?_of_mem (b.ini p hpM)
        exact List.mem_of_getElem? (pre i p hi)
      · obtain ⟨q, c, hc, rfl, hq⟩ := path_cases hpM
        obtain ⟨x, hx, hxq, hrel⟩ := ih q hq fun e' h' => Nat.lt_trans hq (hp e' h')
        obtain ⟨r, hr, hrp, hrr⟩ : ∃ r ∈ W', r ≤ child S q c ∧ S.Rel (nd S (child S q c)) (nd S r) := by
          rcases Nat.lt_or_eq_of_le hxq with hlt | rfl
          · obtain ⟨c', hc', h1, h2⟩ := S.sim _ _ hrel c hc
            have hnb : ¬ S.bad (nd S q) c := fun z => np x hx c' hc' (h1 z)
            obtain ⟨r, hr, hrc, hr2⟩ := ch x hx c' hc'
            refine ⟨r, hr, by unfold child at hrc ⊢; omega, ?_⟩
            rw [nd_child hc]
            rw [nd_child hc'] at hr2
            exact S.trans _ _ _ (h2 hnb) hr2
          · exact ch x hx c hc
        obtain ⟨q', hq', h1, h2⟩ := key r hr fun e' h' => Nat.lt_of_le_of_lt hrp (hp e' h')
        exact ⟨q', hq', Nat.le_trans h1 hrp, S.trans _ _ _ hrr h2⟩
theorem BI.init : BI S (List.range S.M) 0 [] := by
  refine ⟨List.pairwise_lt_range, fun a ha => List.mem_range.mpr ha, fun x hx => .inl (List.mem_range.mp hx), (fun x hx => by cases hx), (fun x hx => by cases hx), (fun x hx => by cases hx), fun p hp => ?_⟩
  have := hp 0 (by rw [List.getElem?_range S.hM])
  omega
variable {W X : List Nat} {d e : Nat}
theorem BI.xlt (b : BI S W d X) (he : W[d]? = some e) : ∀ x ∈ X, x < e := fun x hx => by
  obtain ⟨i, hi, h⟩ := b.xd x hx
  exact idx_lt b.so h he hi
theorem BI.above (b : BI S W d X) (he : W[d]? = some e) (c : Nat) : ∀ x ∈ W, x < child S e c := fun x hx => by
  rcases b.lt x hx with h | ⟨y, hy, k, hk, h⟩
  · exact Nat.lt_of_lt_of_le h (child_ge e c)
  · have := b.xlt he y hy
    subst h
    unfold child
    omega
/-- e is led on, with these of its three -/
theorem BI.lead (b : BI S W d X) (he : W[d]? = some e) (np : ∀ c, c < 3 → ¬ Pt S e c) {ad : List Nat} (so : ad.Pairwise (· < ·)) (sub : ∀ x ∈ ad, ∃ c, c < 3 ∧ x = child S e c)
    (ch : ∀ c, c < 3 → ∃ r ∈ W ++ ad, r ≤ child S e c ∧ S.Rel (nd S (child S e c)) (nd S r)) : BI S (W ++ ad) (d + 1) (X ++ [e]) := by
  refine b.next he ?_ (fun i x h => ?_) (fun x hx => ?_) (fun x hx => List.mem_append_left _ hx) (fun x hx => ?_) (fun x hx => ?_) (fun x hx => ?_) ⟨e, List.mem_append_right _ (List.mem_singleton.mpr rfl), Nat.le_refl _, S.refl _⟩
  · refine List.pairwise_append.mpr ⟨b.so, so, fun x hx y hy => ?_⟩
    obtain ⟨c, _, rfl⟩ := sub y hy
    exact b.above he c x hx
  · rw [List.getElem?_append_left (List.getElem?_eq_some_iff.mp h).1]
    exact h
  · rcases List.mem_append.mp hx with h | h
    · rcases b.lt x h with q | ⟨y, hy, c, hc, q⟩
      · exact .inl q
      · exact .inr ⟨y, List.mem_append_left _ hy, c, hc, q⟩
    · obtain ⟨c, hc, q⟩ := sub x h
      exact .inr ⟨e, List.mem_append_right _ (List.mem_singleton.mpr rfl), c, hc, q⟩
  · rcases List.mem_append.mp hx with h | h
    · exact .inl h
    · exact .inr (List.mem_singleton.mp h)
  · rcases List.mem_append.mp hx with h | h
    · exact b.np x h
    · rw [List.mem_singleton.mp h]
      exact np
  · rcases List.mem_append.mp hx with h | h
    · intro c hc
      obtain ⟨r, h1, h2⟩ := b.ch x h c hc
      exact ⟨r, List.mem_append_left _ h1, h2⟩
    · rw [List.mem_singleton.mp h]
      exact ch
end RG3

set_option maxHeartbeats 4000000
/-! three cases in a list: their pairs, and their places -/
namespace RG3
abbrev Rn := LF.Row Bool
def rw_ (A : List Rn) (i : Nat) : Rn := A.getD i (0, false, 0, false)
abbrev Nd := (Nat × Bool) × (Nat × Bool) × (Nat × Bool)
/-- a pair behind a call of its first or its second case -/
def one (A : List Rn) (s : Nat × Bool) (second : Bool) : Nat × Bool := (LF.nx (rw_ A s.1) (second != s.2), s.2 != LF.fl (rw_ A s.1) (second != s.2))
def stp (A : List Rn) (n : Nd) (c : Nat) : Nd := match c with
  | 0 => (one A n.1 false, one A n.2.1 false, n.2.2)
  | 1 => (one A n.1 true, n.2.1, one A n.2.2 false)
  | _ => (n.1, one A n.2.1 true, one A n.2.2 true)
def ringF (a b c : Bool) : Bool := (a == c) && (a != b)
def ringN (n : Nd) : Bool := ringF n.1.2 n.2.1.2 n.2.2.2
/-- the cases from the front -/
def ordN (n : Nd) : List Nat := match n.1.2, n.2.1.2, n.2.2.2 with
  | false, false, false => [0, 1, 2]
  | false, false, true => [0, 2, 1]
  | true, false, false => [1, 0, 2]
  | false, true, true => [2, 0, 1]
  | true, true, false => [1, 2, 0]
  | _, _, _ => [2, 1, 0]
/-- the states of the pairs of places -/
def plN (n : Nd) : Nat × Nat × Nat := match n.1.2, n.2.1.2, n.2.2.2 with
  | false, false, false => (n.1.1, n.2.1.1, n.2.2.1)
  | false, false, true => (n.2.1.1, n.1.1, n.2.2.1)
  | true, false, false => (n.1.1, n.2.2.1, n.2.1.1)
  | false, true, true => (n.2.1.1, n.2.2.1, n.1.1)
  | true, true, false => (n.2.2.1, n.1.1, n.2.1.1)
  | _, _, _ => (n.2.2.1, n.2.1.1, n.1.1)
def called (A : List Rn) (s : Nat) (behind : Bool) : Nat × Bool := if behind = true then ((rw_ A s).2.2.1, (rw_ A s).2.2.2) else ((rw_ A s).1, !(rw_ A s).2.1)
def fitQ (a b : Nat × Bool) (o : Nat) : Option (Nat × Nat × Nat × Nat) :=
  if (a.2 && b.2) = true then some (0, a.1, b.1, o) else if b.2 = true then some (1, a.1, o, b.1) else if a.2 = true then none else some (2, o, a.1, b.1)
/-- the place of the case that is called at a place, and the states then; none if the pairs form a ring -/
def aft (A : List Rn) (q : Nat × Nat × Nat) (k : Nat) : Option (Nat × Nat × Nat × Nat) := match k with
  | 0 => fitQ (called A q.1 false) (called A q.2.1 false) q.2.2
  | 1 => fitQ (called A q.1 true) (called A q.2.2 false) q.2.1
  | _ => fitQ (called A q.2.1 true) (called A q.2.2 true) q.1
def movedC (l : List Nat) (c k : Nat) : List Nat := (l.filter fun x => decide (x ≠ c)).take k ++ c :: (l.filter fun x => decide (x ≠ c)).drop k
theorem law_place (A : List Rn) (n : Nd) (hn : ringN n = false) {c : Nat} (hc : c < 3) : match aft A (plN n) (LF.ix (ordN n) c) with
    | none => ringN (stp A n c) = true
    | some (k, q) => ringN (stp A n c) = false ∧ plN (stp A n c) = q ∧ ordN (stp A n c) = movedC (ordN n) c k := by
  obtain ⟨⟨s1, t1⟩, ⟨s2, t2⟩, ⟨s3, t3⟩⟩ := n
  obtain ⟨r1, h1⟩ : ∃ r, rw_ A s1 = r := ⟨_, rfl⟩
  obtain ⟨r2, h2⟩ : ∃ r, rw_ A s2 = r := ⟨_, rfl⟩
  obtain ⟨r3, h3⟩ : ∃ r, rw_ A s3 = r := ⟨_, rfl⟩
  obtain ⟨a1, f1, b1, g1⟩ := r1
  obtain ⟨a2, f2, b2, g2⟩ := r2
  obtain ⟨a3, f3, b3, g3⟩ := r3
  have hcc : c = 0 ∨ c = 1 ∨ c = 2 := by omega
  cases t1 <;> cases t2 <;> cases t3 <;> first
    | (exfalso; simp [ringN, ringF] at hn; done)
    | (rcases hcc with rfl | rfl | rfl
       · cases f1 <;> cases g1 <;> cases f2 <;> cases g2 <;> simp [plN, ordN, LF.ix, stp, one, aft, called, fitQ, ringN, ringF, movedC, h1, h2, h3, LF.nx, LF.fl]
       · cases f1 <;> cases g1 <;> cases f3 <;> cases g3 <;> simp [plN, ordN, LF.ix, stp, one, aft, called, fitQ, ringN, ringF, movedC, h1, h2, h3, LF.nx, LF.fl]
       · cases f2 <;> cases g2 <;> cases f3 <;> cases g3 <;> simp [plN, ordN, LF.ix, stp, one, aft, called, fitQ, ringN, ringF, movedC, h1, h2, h3, LF.nx, LF.fl])
end RG3

set_option maxHeartbeats 4000000
/-! nodes that go alike up to the names of the cases -/
namespace RG3
variable {A : List Rn}
def AlkQ (A : List Rn) (q q' : Nat × Nat × Nat) : Prop := LF.RR A A q.1 q'.1 ∧ LF.RR A A q.2.1 q'.2.1 ∧ LF.RR A A q.2.2 q'.2.2
theorem rr_trans {a b c : Nat} (h : LF.RR A A a b) (h' : LF.RR A A b c) : LF.RR A A a c := ⟨h.1, h'.2.1, fun w => (h.2.2 w).trans (h'.2.2 w)⟩
theorem AlkQ.trans {q r s : Nat × Nat × Nat} (h : AlkQ A q r) (h' : AlkQ A r s) : AlkQ A q s := ⟨rr_trans h.1 h'.1, rr_trans h.2.1 h'.2.1, rr_trans h.2.2 h'.2.2⟩
theorem row_at {a : Nat} (h : a < A.length) : A[a]? = some (rw_ A a) := by
  unfold rw_
  rw [List.getD_eq_getElem?_getD, List.getElem?_eq_getElem h]
  rfl
theorem called_alk (ok : LF.TOk A) {a b : Nat} (h : LF.RR A A a b) (bh : Bool) : (called A a bh).2 = (called A b bh).2 ∧ LF.RR A A (called A a bh).1 (called A b bh).1 := by
  obtain ⟨k, r1, r2⟩ := LF.rr_step ok ok h (row_at h.1) (row_at h.2.1)
  have k1 : (rw_ A a).2.1 = (rw_ A b).2.1 := congrArg (fun z : Bool × Bool => z.1) k
  have k2 : (rw_ A a).2.2.2 = (rw_ A b).2.2.2 := congrArg (fun z : Bool × Bool => z.2) k
  unfold called
  cases bh with
  | true => exact ⟨k2, r2⟩
  | false =>
    refine ⟨?_, r1⟩
    show (!(rw_ A a).2.1) = !(rw_ A b).2.1
    rw [k1]
/-- what two places give alike -/
def AlkO (A : List Rn) : Option (Nat × Nat × Nat × Nat) → Option (Nat × Nat × Nat × Nat) → Prop
  | none, none => True
  | some (k, q), some (k', q') => k = k' ∧ AlkQ A q q'
  | _, _ => False
theorem fit_alk {a b a' b' : Nat × Bool} {o o' : Nat} (ha : a.2 = a'.2) (ha1 : LF.RR A A a.1 a'.1) (hb : b.2 = b'.2) (hb1 : LF.RR A A b.1 b'.1) (ho : LF.RR A A o o') : AlkO A (fitQ a b o) (fitQ a' b' o') := by
  obtain ⟨x, f⟩ := a
  obtain ⟨x', f'⟩ := a'
  obtain ⟨y, g⟩ := b
  obtain ⟨y', g'⟩ := b'
  dsimp only at ha ha1 hb hb1
  subst ha hb
  cases f <;> cases g
  · exact ⟨rfl, ho, ha1, hb1⟩
  · exact ⟨rfl, ha1, ho, hb1⟩
  · exact True.intro
  · exact ⟨rfl, ha1, hb1, ho⟩
theorem aft_alk (ok : LF.TOk A) {q q' : Nat × Nat × Nat} (h : AlkQ A q q') (k : Nat) : AlkO A (aft A q k) (aft A q' k) := by
  obtain ⟨h1, h2, h3⟩ := h
  match k with
  | 0 => exact fit_alk (called_alk ok h1 false).1 (called_alk ok h1 false).2 (called_alk ok h2 false).1 (called_alk ok h2 false).2 h3
  | 1 => exact fit_alk (called_alk ok h1 true).1 (called_alk ok h1 true).2 (called_alk ok h3 false).1 (called_alk ok h3 false).2 h2
  | _ + 2 => exact fit_alk (called_alk ok h2 true).1 (called_alk ok h2 true).2 (called_alk ok h3 true).1 (called_alk ok h3 true).2 h1
theorem ord_ix (n : Nd) {c : Nat} (hc : c < 3) : LF.ix (ordN n) c < 3 := by
  obtain ⟨⟨s1, t1⟩, ⟨s2, t2⟩, ⟨s3, t3⟩⟩ := n
  have hcc : c = 0 ∨ c = 1 ∨ c = 2 := by omega
  rcases hcc with rfl | rfl | rfl <;> cases t1 <;> cases t2 <;> cases t3 <;> simp [ordN, LF.ix]
theorem ord_at (n : Nd) {k : Nat} (hk : k < 3) : ∃ c, c < 3 ∧ LF.ix (ordN n) c = k := by
  obtain ⟨⟨s1, t1⟩, ⟨s2, t2⟩, ⟨s3, t3⟩⟩ := n
  have hkk : k = 0 ∨ k = 1 ∨ k = 2 := by omega
  rcases hkk with rfl | rfl | rfl <;> cases t1 <;> cases t2 <;> cases t3 <;>
    first
    | (refine ⟨0, by decide, ?_⟩; simp [ordN, LF.ix]; done)
    | (refine ⟨1, by decide, ?_⟩; simp [ordN, LF.ix]; done)
    | (refine ⟨2, by decide, ?_⟩; simp [ordN, LF.ix]; done)
def RelN (A : List Rn) (n m : Nd) : Prop := n = m ∨ (ringN n = false ∧ ringN m = false ∧ AlkQ A (plN n) (plN m))
theorem rel_sim (ok : LF.TOk A) (n m : Nd) (h : RelN A n m) (c : Nat) (hc : c < 3) : ∃ c', c' < 3 ∧ (ringN (stp A n c) = true → ringN (stp A m c') = true) ∧ (¬ ringN (stp A n c) = true → RelN A (stp A n c) (stp A m c')) := by
  rcases h with rfl | ⟨hn, hm, hq⟩
  · exact ⟨c, hc, id, fun _ => .inl rfl⟩
  · obtain ⟨c', hc', e⟩ := ord_at m (ord_ix n hc)
    refine ⟨c', hc', ?_⟩
    have l1 := law_place A n hn hc
    have l2 := law_place A m hm hc'
    rw [e] at l2
    have ak := aft_alk ok hq (LF.ix (ordN n) c)
    generalize aft A (plN n) (LF.ix (ordN n) c) = x at l1 ak
    generalize aft A (plN m) (LF.ix (ordN n) c) = y at l2 ak
    match x, y, ak with
    | none, none, _ => exact ⟨fun _ => l2, fun z => absurd l1 z⟩
    | some (k, q), some (k', q'), ak =>
      obtain ⟨w1, w2, _⟩ := l1
      obtain ⟨v1, v2, _⟩ := l2
      refine ⟨fun z => ?_, fun _ => .inr ⟨w1, v1, ?_⟩⟩
      · rw [w1] at z; cases z
      · rw [w2, v2]
        exact ak.2
def rootN (st : List Nat) (m p : Nat) : Nd := ((st.getD (p / (m * m) * m + p / m % m) 0, false), (st.getD (p / (m * m) * m + p % m) 0, false), (st.getD (p / m % m * m + p % m) 0, false))
/-- the search for rings in a table -/
def ringSys (A : List Rn) (st : List Nat) (m : Nat) (ok : LF.TOk A) (hm : 0 < m) : Sys Nd where
  M := m * m * m
  rt := rootN st m
  stp := stp A
  bad := fun n c => ringN (stp A n c) = true
  Rel := RelN A
  hM := Nat.mul_pos (Nat.mul_pos hm hm) hm
  refl := fun n => .inl rfl
  trans := fun a b c h h' => by
    rcases h with rfl | ⟨h1, h2, h3⟩
    · exact h'
    · rcases h' with rfl | ⟨_, g2, g3⟩
      · exact .inr ⟨h1, h2, h3⟩
      · exact .inr ⟨h1, g2, h3.trans g3⟩
  sim := rel_sim ok
end RG3

set_option maxHeartbeats 4000000
/-! the least form beside the table: states that go alike -/
namespace RG3
variable {A B : List Rn}
def AlkT (A B : List Rn) (q q' : Nat × Nat × Nat) : Prop := LF.RR A B q.1 q'.1 ∧ LF.RR A B q.2.1 q'.2.1 ∧ LF.RR A B q.2.2 q'.2.2
theorem called_alkT (oA : LF.TOk A) (oB : LF.TOk B) {a b : Nat} (h : LF.RR A B a b) (bh : Bool) : (called A a bh).2 = (called B b bh).2 ∧ LF.RR A B (called A a bh).1 (called B b bh).1 := by
  obtain ⟨k, r1, r2⟩ := LF.rr_step oA oB h (row_at h.1) (row_at h.2.1)
  have k1 : (rw_ A a).2.1 = (rw_ B b).2.1 := congrArg (fun z : Bool × Bool => z.1) k
  have k2 : (rw_ A a).2.2.2 = (rw_ B b).2.2.2 := congrArg (fun z : Bool × Bool => z.2) k
  unfold called
  cases bh with
  | true => exact ⟨k2, r2⟩
  | false =>
    refine ⟨?_, r1⟩
    show (!(rw_ A a).2.1) = !(rw_ B b).2.1
    rw [k1]
def AlkOT (A B : List Rn) : Option (Nat × Nat × Nat × Nat) → Option (Nat × Nat × Nat × Nat) → Prop
  | none, none => True
  | some (k, q), some (k', q') => k = k' ∧ AlkT A B q q'
  | _, _ => False
theorem fit_alkT {a b a' b' : Nat × Bool} {o o' : Nat} (ha : a.2 = a'.2) (ha1 : LF.RR A B a.1 a'.1) (hb : b.2 = b'.2) (hb1 : LF.RR A B b.1 b'.1) (ho : LF.RR A B o o') : AlkOT A B (fitQ a b o) (fitQ a' b' o') := by
  obtain ⟨x, f⟩ := a
  obtain ⟨x', f'⟩ := a'
  obtain ⟨y, g⟩ := b
  obtain ⟨y', g'⟩ := b'
  dsimp only at ha ha1 hb hb1
  subst ha hb
  cases f <;> cases g
  · exact ⟨rfl, ho, ha1, hb1⟩
  · exact ⟨rfl, ha1, ho, hb1⟩
  · exact True.intro
  · exact ⟨rfl, ha1, hb1, ho⟩
theorem aft_alkT (oA : LF.TOk A) (oB : LF.TOk B) {q q' : Nat × Nat × Nat} (h : AlkT A B q q') (k : Nat) : AlkOT A B (aft A q k) (aft B q' k) := by
  obtain ⟨h1, h2, h3⟩ := h
  match k with
  | 0 => exact fit_alkT (called_alkT oA oB h1 false).1 (called_alkT oA oB h1 false).2 (called_alkT oA oB h2 false).1 (called_alkT oA oB h2 false).2 h3
  | 1 => exact fit_alkT (called_alkT oA oB h1 true).1 (called_alkT oA oB h1 true).2 (called_alkT oA oB h3 false).1 (called_alkT oA oB h3 false).2 h2
  | _ + 2 => exact fit_alkT (called_alkT oA oB h2 true).1 (called_alkT oA oB h2 true).2 (called_alkT oA oB h3 true).1 (called_alkT oA oB h3 true).2 h1
/-- the same states of the least form: alike nodes -/
theorem same_alk {q x y : Nat × Nat × Nat} (h : AlkT A B q x) (h' : AlkT A B q y) : AlkQ B x y :=
  ⟨⟨h.1.2.1, h'.1.2.1, fun w => (h.1.2.2 w).symm.trans (h'.1.2.2 w)⟩, ⟨h.2.1.2.1, h'.2.1.2.1, fun w => (h.2.1.2.2 w).symm.trans (h'.2.1.2.2 w)⟩, ⟨h.2.2.2.1, h'.2.2.2.1, fun w => (h.2.2.2.2 w).symm.trans (h'.2.2.2.2 w)⟩⟩
theorem rel_same {q : Nat × Nat × Nat} {n m : Nd} (hn : ringN n = false) (hm : ringN m = false) (h : AlkT A B q (plN n)) (h' : AlkT A B q (plN m)) : RelN B n m := .inr ⟨hn, hm, same_alk h h'⟩
/-- an entry that is led on: what the program makes of its places is what the table makes of the node -/
theorem lead_place (oA : LF.TOk A) (oB : LF.TOk B) {q : Nat × Nat × Nat} {n : Nd} (hn : ringN n = false) (h : AlkT A B q (plN n)) {c : Nat} (hc : c < 3) : match aft A q (LF.ix (ordN n) c) with
    | none => ringN (stp B n c) = true
    | some (k, r) => ringN (stp B n c) = false ∧ AlkT A B r (plN (stp B n c)) ∧ ordN (stp B n c) = movedC (ordN n) c k := by
  have l := law_place B n hn hc
  have a := aft_alkT oA oB h (LF.ix (ordN n) c)
  generalize aft A q (LF.ix (ordN n) c) = x at a ⊢
  generalize aft B (plN n) (LF.ix (ordN n) c) = y at l a
  match x, y, a with
  | none, none, _ => exact l
  | some (k, r), some (k', r'), a =>
    obtain ⟨w1, w2, w3⟩ := l
    obtain ⟨e, a2⟩ := a
    subst e
    refine ⟨w1, ?_, w3⟩
    rw [w2]
    exact a2
/-- the beginnings in the least form -/
theorem root_alk {st st' : List Nat} {m p : Nat} (h : ∀ i, i < m * m → LF.RR A B (st.getD i 0) (st'.getD i 0)) (hm : 0 < m) (hp : p < m * m * m) :
    ringN (rootN st' m p) = false ∧ ordN (rootN st' m p) = [0, 1, 2] ∧ AlkT A B (st.getD (p / (m * m) * m + p / m % m) 0, st.getD (p / (m * m) * m + p % m) 0, st.getD (p / m % m * m + p % m) 0) (plN (rootN st' m p)) := by
  have ha : p / (m * m) < m := Nat.div_lt_of_lt_mul hp
  have hb : p / m % m < m := Nat.mod_lt _ hm
  have hc : p % m < m := Nat.mod_lt _ hm
  have ix : ∀ {a b : Nat}, a < m → b < m → a * m + b < m * m := fun {a b} x y => by
    have : (a + 1) * m ≤ m * m := Nat.mul_le_mul_right m x
    rw [Nat.succ_mul] at this
    omega
  exact ⟨rfl, rfl, h _ (ix ha hb), h _ (ix ha hc), h _ (ix hb hc)⟩
end RG3

set_option maxHeartbeats 4000000
/-! what a search for rings can hold -/
namespace RG3
theorem ix_at : ∀ {l : List Nat} {c : Nat}, c ∈ l → l[LF.ix l c]? = some c ∧ ∀ (m z : Nat), m < LF.ix l c → l[m]? = some z → z ≠ c
  | x :: l, c, h => by
    by_cases e : x = c
    · subst e
      have e0 : LF.ix (x :: l) x = 0 := by simp [LF.ix]
      rw [e0]
      exact ⟨rfl, fun m z hm => absurd hm (Nat.not_lt_zero _)⟩
    · have e0 : LF.ix (x :: l) c = LF.ix l c + 1 := by simp [LF.ix, e]
      rw [e0]
      obtain ⟨h1, h2⟩ := ix_at ((List.mem_cons.mp h).resolve_left fun z => e z.symm)
      refine ⟨by simpa using h1, fun m z hm hz => ?_⟩
      match m with
      | 0 =>
        have : x = z := by simpa using hz
        rw [← this]
        exact e
      | m + 1 => exact h2 m z (by omega) (by simpa using hz)
theorem ord_mem (n : Nd) {c : Nat} (hc : c < 3) : c ∈ ordN n := by
  obtain ⟨⟨s1, t1⟩, ⟨s2, t2⟩, ⟨s3, t3⟩⟩ := n
  have hcc : c = 0 ∨ c = 1 ∨ c = 2 := by omega
  rcases hcc with rfl | rfl | rfl <;> cases t1 <;> cases t2 <;> cases t3 <;> simp [ordN]
theorem ord_len (n : Nd) : (ordN n).length = 3 := by
  obtain ⟨⟨s1, t1⟩, ⟨s2, t2⟩, ⟨s3, t3⟩⟩ := n
  cases t1 <;> cases t2 <;> cases t3 <;> rfl
theorem ord_flt (n : Nd) {c : Nat} (hc : c < 3) : ((ordN n).filter fun x => decide (x ≠ c)).length = 2 := by
  obtain ⟨⟨s1, t1⟩, ⟨s2, t2⟩, ⟨s3, t3⟩⟩ := n
  have hcc : c = 0 ∨ c = 1 ∨ c = 2 := by omega
  rcases hcc with rfl | rfl | rfl <;> cases t1 <;> cases t2 <;> cases t3 <;> rfl
theorem fit_lt {a b : Nat × Bool} {o k : Nat} {q : Nat × Nat × Nat} (h : fitQ a b o = some (k, q)) : k ≤ 2 := by
  unfold fitQ at h
  split at h
  · cases h; decide
  · split at h
    · cases h; decide
    · split at h
      · cases h
      · cases h; decide
theorem aft_lt {A : List Rn} {q r : Nat × Nat × Nat} {p k : Nat} (h : aft A q p = some (k, r)) : k ≤ 2 := by
  unfold aft at h
  split at h <;> exact fit_lt h
theorem nodup_map {α β : Type} {f : α → β} {l : List α} (nd : l.Nodup) (inj : ∀ a ∈ l, ∀ b ∈ l, f a = f b → a = b) : (l.map f).Nodup := by
  unfold List.Nodup
  rw [List.pairwise_map]
  exact List.Pairwise.imp_of_mem (fun {a b} ha hb h e => h (inj a ha b hb e)) nd
theorem two_eq {L a b c d : Nat} (hb : b < L) (hd : d < L) (h : a * L + b = c * L + d) : a = c ∧ b = d := by
  have h1 := congrArg (· % L) h
  simp only [Nat.mul_add_mod', Nat.mod_eq_of_lt hb, Nat.mod_eq_of_lt hd] at h1
  subst h1
  refine ⟨?_, rfl⟩
  have h2 : a * L = c * L := by omega
  exact Nat.eq_of_mul_eq_mul_right (by omega) h2
theorem qfew (L : Nat) {l : List (Nat × Nat × Nat)} (nd : l.Nodup) (h : ∀ q ∈ l, q.1 < L ∧ q.2.1 < L ∧ q.2.2 < L) : l.length ≤ L * L * L := by
  have h1 : (l.map fun q : Nat × Nat × Nat => (q.1 * L + q.2.1) * L + q.2.2).Nodup := nodup_map nd fun a ha b hb e => by
    obtain ⟨a1, a2, a3⟩ := a
    obtain ⟨b1, b2, b3⟩ := b
    obtain ⟨h1, h2, h3⟩ := h _ ha
    obtain ⟨g1, g2, g3⟩ := h _ hb
    dsimp only at h1 h2 h3 g1 g2 g3 e
    obtain ⟨e1, e2⟩ := two_eq h3 g3 e
    obtain ⟨e3, e4⟩ := two_eq h2 g2 e1
    rw [e2, e3, e4]
  have h2 := LF.few (L * L * L) h1 fun x hx => by
    obtain ⟨q, hq, rfl⟩ := List.mem_map.mp hx
    obtain ⟨h1, h2, h3⟩ := h q hq
    have e1 : q.1 * L + q.2.1 < L * L := by
      have : (q.1 + 1) * L ≤ L * L := Nat.mul_le_mul_right L h1
      rw [Nat.succ_mul] at this
      omega
    have : (q.1 * L + q.2.1 + 1) * L ≤ L * L * L := Nat.mul_le_mul_right L e1
    rw [Nat.succ_mul] at this
    show (q.1 * L + q.2.1) * L + q.2.2 < _
    omega
  rwa [List.length_map] at h2
/-- a node as three numbers -/
def ndC (n : Nd) : Nat × Nat × Nat := (2 * n.1.1 + n.1.2.toNat, 2 * n.2.1.1 + n.2.1.2.toNat, 2 * n.2.2.1 + n.2.2.2.toNat)
theorem sb_inj {a b : Nat × Bool} (h : 2 * a.1 + a.2.toNat = 2 * b.1 + b.2.toNat) : a = b := by
  obtain ⟨x, f⟩ := a
  obtain ⟨y, g⟩ := b
  dsimp only at h
  have e : x = y ∧ f = g := by
    cases f <;> cases g <;> simp only [Bool.toNat_false, Bool.toNat_true] at h <;> (constructor <;> first | rfl | omega)
  rw [e.1, e.2]
theorem ndC_inj {n m : Nd} (h : ndC n = ndC m) : n = m := by
  obtain ⟨a, b, c⟩ := n
  obtain ⟨a', b', c'⟩ := m
  injection h with h1 h2
  injection h2 with h2 h3
  have e1 : a = a' := sb_inj h1
  have e2 : b = b' := sb_inj h2
  have e3 : c = c' := sb_inj h3
  rw [e1, e2, e3]
def NdLt (L : Nat) (n : Nd) : Prop := n.1.1 < L ∧ n.2.1.1 < L ∧ n.2.2.1 < L
theorem nfew (L : Nat) {l : List Nd} (nd : l.Nodup) (h : ∀ n ∈ l, NdLt L n) : l.length ≤ 2 * L * (2 * L) * (2 * L) := by
  have h1 := qfew (2 * L) (l := l.map ndC) (nodup_map nd fun a _ b _ e => ndC_inj e) fun q hq => by
    obtain ⟨n, hn, rfl⟩ := List.mem_map.mp hq
    obtain ⟨h1, h2, h3⟩ := h n hn
    have t : ∀ b : Bool, b.toNat ≤ 1 := fun b => by cases b <;> decide
    have := t n.1.2
    have := t n.2.1.2
    have := t n.2.2.2
    unfold ndC
    dsimp only
    omega
  rwa [List.length_map] at h1
section
variable {A : List Rn}
theorem one_lt (ok : LF.TOk A) {s : Nat × Bool} (h : s.1 < A.length) (b : Bool) : (one A s b).1 < A.length := by
  have := ok _ (List.mem_of_getElem? (row_at h))
  unfold one LF.nx
  dsimp only
  split
  · exact this.2
  · exact this.1
theorem stp_lt (ok : LF.TOk A) {n : Nd} (h : NdLt A.length n) (c : Nat) : NdLt A.length (stp A n c) := by
  obtain ⟨h1, h2, h3⟩ := h
  match c with
  | 0 => exact ⟨one_lt ok h1 _, one_lt ok h2 _, h3⟩
  | 1 => exact ⟨one_lt ok h1 _, h2, one_lt ok h3 _⟩
  | _ + 2 => exact ⟨h1, one_lt ok h2 _, one_lt ok h3 _⟩
theorem tri_ix {m a b : Nat} (ha : a < m) (hb : b < m) : a * m + b < m * m := by
  have : (a + 1) * m ≤ m * m := Nat.mul_le_mul_right m ha
  rw [Nat.succ_mul] at this
  omega
theorem nd_lt {st : List Nat} {m : Nat} (ok : LF.TOk A) (hm : 0 < m) (hs : ∀ s ∈ st, s < A.length) (hl : st.length = m * m) (p : Nat) : NdLt A.length (nd (ringSys A st m ok hm) p) := by
  have sd : ∀ i, i < m * m → st.getD i 0 < A.length := fun i hi => by
    rw [List.getD_eq_getElem?_getD, List.getElem?_eq_getElem (by omega)]
    exact hs _ (List.getElem_mem _)
  induction p using Nat.strongRecOn with
  | _ p ih =>
    by_cases hp : p < (ringSys A st m ok hm).M
    · rw [nd_root hp]
      have hp : p < m * m * m := hp
      have ha : p / (m * m) < m := Nat.div_lt_of_lt_mul hp
      have hb : p / m % m < m := Nat.mod_lt _ hm
      have hc : p % m < m := Nat.mod_lt _ hm
      exact ⟨sd _ (tri_ix ha hb), sd _ (tri_ix ha hc), sd _ (tri_ix hb hc)⟩
    · obtain ⟨q, c, hc, rfl, hq⟩ := path_cases hp
      rw [nd_child hc]
      exact stp_lt ok (ih q hq) c
theorem lf_rr {st : List Nat} {m : Nat} (ok : LF.TOk A) (hs : ∀ s ∈ st, s < A.length) (hl : st.length = m * m) : ∀ i, i < m * m → LF.RR (LF.lf A st).1 A ((LF.lf A st).2.getD i 0) (st.getD i 0) := fun i hi => by
  have h1 : i < (LF.lf A st).2.length := by rw [LF.lf_len]; omega
  have h2 : i < st.length := by omega
  have e1 : (LF.lf A st).2[i]? = some ((LF.lf A st).2.getD i 0) := by
    rw [List.getD_eq_getElem?_getD, List.getElem?_eq_getElem h1]
    rfl
  have e2 : st[i]? = some (st.getD i 0) := by
    rw [List.getD_eq_getElem?_getD, List.getElem?_eq_getElem h2]
    rfl
  exact ⟨LF.lf_st ok hs _ (List.mem_of_getElem? e1), hs _ (List.mem_of_getElem? e2), (LF.lf_alk ok hs).get e1 e2⟩
end
theorem BI.calls_le {N : Type} {S : Sys N} {W X : List Nat} {d : Nat} (b : BI S W d X) : ∀ (i x : Nat), W[i]? = some x → (calls S x).length ≤ i := by
  intro i
  induction i using Nat.strongRecOn with
  | _ i ih =>
    intro x hx
    rcases b.lt x (List.mem_of_getElem? hx) with h | ⟨y, hy, c, hc, rfl⟩
    · rw [calls_root h]
      exact Nat.zero_le _
    · obtain ⟨j, _, hj⟩ := b.xd y hy
      have hlt : j < i := by
        have hyx : y < child S y c := by
          have := S.hM
          unfold child
          omega
        rcases Nat.lt_trichotomy j i with q | q | q
        · exact q
        · subst q
          rw [hj] at hx
          injection hx with hx
          omega
        · have := idx_lt b.so hx hj q
          omega
      have := ih j hlt y hj
      rw [calls_child hc, List.length_append]
      show _ + 1 ≤ i
      omega
end RG3

namespace LP
open LF
abbrev R := Row Bool
abbrev Node := Nat × Nat × Bool
variable (A B : List R) (st st' : List Nat)
def rw_ (X : List R) (i : Nat) : R := X.getD i (0, false, 0, false)
/-- a call of the second case (true) or the first, at a node: is the case behind called -/
def bh (n : Node) (c : Bool) : Bool := c != n.2.2
def ch1 (n : Node) (c : Bool) : Bool := fl (rw_ A n.1) (bh n c)
def ch2 (n : Node) (c : Bool) : Bool := fl (rw_ B n.2.1) (bh n c)
def stepN (n : Node) (c : Bool) : Node := (nx (rw_ A n.1) (bh n c), nx (rw_ B n.2.1) (bh n c), n.2.2 != ch1 A n c)
/-- paths as numbers: below M the beginnings, behind them 2 p + M + (0 or 1) -/
def nd (M : Nat) (p : Nat) : Node :=
  if h : p < M ∨ M = 0 then (st.getD p 0, st'.getD p 0, false) else stepN A B (nd M ((p - M) / 2)) ((p - M) % 2 == 1)
termination_by p
decreasing_by omega
def calls (M : Nat) (p : Nat) : List Bool :=
  if h : p < M ∨ M = 0 then [] else calls M ((p - M) / 2) ++ [(p - M) % 2 == 1]
termination_by p
decreasing_by omega
def root (M : Nat) (p : Nat) : Nat :=
  if h : p < M ∨ M = 0 then p else root M ((p - M) / 2)
termination_by p
decreasing_by omega
def bn (c : Bool) : Nat := if c then 1 else 0
def child (M p : Nat) (c : Bool) : Nat := 2 * p + M + bn c
variable {A B st st'}
section
variable {M : Nat}
theorem child_ge (p : Nat) (c : Bool) : M ≤ child M p c := by unfold child; omega
theorem child_par (p : Nat) (c : Bool) : (child M p c - M) / 2 = p := by
  unfold child bn
  cases c <;> simp <;> omega
theorem child_bit (p : Nat) (c : Bool) : ((child M p c - M) % 2 == 1) = c := by
  unfold child bn
  have e0 : (2 * p + M + 0 - M) % 2 = 0 := by omega
  have e1 : (2 * p + M + 1 - M) % 2 = 1 := by omega
  cases c
  · show ((2 * p + M + 0 - M) % 2 == 1) = false
    rw [e0]; rfl
  · show ((2 * p + M + 1 - M) % 2 == 1) = true
    rw [e1]; rfl
theorem nd_child (hM : 0 < M) (p : Nat) (c : Bool) : nd A B st st' M (child M p c) = stepN A B (nd A B st st' M p) c := by
  have h := child_ge (M := M) p c
  rw [nd, dif_neg (by omega), child_par, child_bit]
theorem calls_child (hM : 0 < M) (p : Nat) (c : Bool) : calls M (child M p c) = calls M p ++ [c] := by
  have h := child_ge (M := M) p c
  rw [calls, dif_neg (by omega), child_par, child_bit]
theorem root_child (hM : 0 < M) (p : Nat) (c : Bool) : root M (child M p c) = root M p := by
  have h := child_ge (M := M) p c
  rw [root, dif_neg (by omega), child_par]
theorem nd_root {p : Nat} (h : p < M) : nd A B st st' M p = (st.getD p 0, st'.getD p 0, false) := by rw [nd, dif_pos (.inl h)]
theorem calls_root {p : Nat} (h : p < M) : calls M p = [] := by rw [calls, dif_pos (.inl h)]
theorem root_root {p : Nat} (h : p < M) : root M p = p := by rw [root, dif_pos (.inl h)]
theorem root_lt (hM : 0 < M) (p : Nat) : root M p < M := by
  induction p using Nat.strongRecOn with
  | _ p ih =>
    by_cases h : p < M
    · rw [root_root h]; exact h
    · rw [root, dif_neg (by omega)]
      exact ih _ (by omega)
theorem path_cases {p : Nat} (h : ¬ p < M) : ∃ q c, p = child M q c ∧ q < p ∨ M = 0 := by
  by_cases hM : M = 0
  · exact ⟨0, false, .inr hM⟩
  · refine ⟨(p - M) / 2, (p - M) % 2 == 1, .inl ⟨?_, by omega⟩⟩
    unfold child bn
    rcases Nat.mod_two_eq_zero_or_one (p - M) with e | e <;> rw [e] <;> simp <;> omega
end
/-- behind this path the call c changes one and not the other -/
def Pt (A B : List R) (st st' : List Nat) (M p : Nat) (c : Bool) : Prop := ch1 A (nd A B st st' M p) c ≠ ch2 B (nd A B st st' M p) c
section
variable {M : Nat}
/-- the first such path and call -/
def Res (A B : List R) (st st' : List Nat) (M : Nat) : Option (Nat × Bool) → Prop
  | none => ∀ p c, ¬ Pt A B st st' M p c
  | some (p, c) => Pt A B st st' M p c ∧ (∀ q d, q < p → ¬ Pt A B st st' M q d) ∧ (c = true → ¬ Pt A B st st' M p false)
theorem Res.unique : ∀ {o o' : Option (Nat × Bool)}, Res A B st st' M o → Res A B st st' M o' → o = o'
  | none, none, _, _ => rfl
  | none, some (p, c), h, h' => absurd h'.1 (h p c)
  | some (p, c), none, h, h' => absurd h.1 (h' p c)
  | some (p, c), some (q, d), h, h' => by
    have e : p = q := by
      rcases Nat.lt_trichotomy p q with l | l | l
      · exact absurd h.1 (h'.2.1 p c l)
      · exact l
      · exact absurd h'.1 (h.2.1 q d l)
    subst e
    cases c <;> cases d
    · rfl
    · exact absurd h.1 (h'.2.2 rfl)
    · exact absurd h'.1 (h.2.2 rfl)
    · rfl
/-- how a search stands: W all that was put in, d the next, X what was led on -/
structure BI (A B : List R) (st st' : List Nat) (M : Nat) (W : List Nat) (d : Nat) (X : List Nat) : Prop where
  hM : 0 < M
  so : W.Pairwise (· < ·)
  ini : ∀ a, a < M → a ∈ W
  lt : ∀ x ∈ W, x < M ∨ ∃ y ∈ X, ∃ c, x = child M y c
  xd : ∀ x ∈ X, ∃ i : Nat, i < d ∧ W[i]? = some x
  np : ∀ x ∈ X, ∀ c, ¬ Pt A B st st' M x c
  ch : ∀ x ∈ X, ∀ c, ∃ r ∈ W, r ≤ child M x c ∧ nd A B st st' M r = nd A B st st' M (child M x c)
  dom : ∀ p, (∀ e, W[d]? = some e → p < e) → ∃ q ∈ X, q ≤ p ∧ nd A B st st' M q = nd A B st st' M p
theorem Pt.of {p q : Nat} {c : Bool} (h : Pt A B st st' M p c) (e : nd A B st st' M q = nd A B st st' M p) : Pt A B st st' M q c := by
  unfold Pt at h ⊢
  rw [e]
  exact h
theorem BI.found {W X : List Nat} {d e : Nat} {c : Bool} (b : BI A B st st' M W d X) (he : W[d]? = some e) (h : Pt A B st st' M e c) (h0 : c = true → ¬ Pt A B st st' M e false) : Res A B st st' M (some (e, c)) := by
  refine ⟨h, fun q k hq hp => ?_, h0⟩
  obtain ⟨x, hx, _, e1⟩ := b.dom q fun e' h' => by rw [he] at h'; cases h'; exact hq
  exact b.np x hx k (hp.of e1)
theorem BI.none {W X : List Nat} {d : Nat} (b : BI A B st st' M W d X) (h : W.length ≤ d) : Res A B st st' M none := by
  intro p c hp
  obtain ⟨x, hx, _, e1⟩ := b.dom p fun e h' => by
    have := (List.getElem?_eq_some_iff.mp h').1
    omega
  exact b.np x hx c (hp.of e1)
theorem idx_le {W : List Nat} (so : W.Pairwise (· < ·)) {i j x y : Nat} (hi : W[i]? = some x) (hj : W[j]? = some y) (h : x < y) : i < j := by
  obtain ⟨li, ei⟩ := List.getElem?_eq_some_iff.mp hi
  obtain ⟨lj, ej⟩ := List.getElem?_eq_some_iff.mp hj
  rcases Nat.lt_trichotomy i j with q | q | q
  · exact q
  · subst q
    rw [ei] at ej
    omega
  · have := List.pairwise_iff_getElem.mp so j i lj li q
    omega
theorem idx_lt {W : List Nat} (so : W.Pairwise (· < ·)) {i j x y : Nat} (hi : W[i]? = some x) (hj : W[j]? = some y) (h : i < j) : x < y := by
  obtain ⟨li, ei⟩ := List.getElem?_eq_some_iff.mp hi
  obtain ⟨lj, ej⟩ := List.getElem?_eq_some_iff.mp hj
  have := List.pairwise_iff_getElem.mp so i j li lj h
  omega
/-- one more has been taken -/
theorem BI.next {W X W' X' : List Nat} {d e : Nat} (b : BI A B st st' M W d X) (he : W[d]? = some e) (so : W'.Pairwise (· < ·)) (pre : ∀ (i x : Nat), W[i]? = some x → W'[i]? = some x)
    (lt : ∀ x ∈ W', x < M ∨ ∃ y ∈ X', ∃ c, x = child M y c) (sub : ∀ x ∈ X, x ∈ X') (xd : ∀ x ∈ X', x ∈ X ∨ x = e) (np : ∀ x ∈ X', ∀ c, ¬ Pt A B st st' M x c)
    (ch : ∀ x ∈ X', ∀ c, ∃ r ∈ W', r ≤ child M x c ∧ nd A B st st' M r = nd A B st st' M (child M x c)) (de : ∃ q ∈ X', q ≤ e ∧ nd A B st st' M q = nd A B st st' M e) : BI A B st st' M W' (d + 1) X' := by
  have he' := pre _ _ he
  have key : ∀ r, r ∈ W' → (∀ e', W'[d + 1]? = some e' → r < e') → ∃ q ∈ X', q ≤ r ∧ nd A B st st' M q = nd A B st st' M r := by
    intro r hr hlt
    obtain ⟨i, hi⟩ := List.getElem?_of_mem hr
    have hid : i ≤ d := by
      rcases Nat.lt_or_ge d i with q | q
      · exfalso
        have li := (List.getElem?_eq_some_iff.mp hi).1
        have hx : W'[d + 1]? = some W'[d + 1] := List.getElem?_eq_getElem (by omega)
        have l1 := hlt _ hx
        rcases Nat.lt_or_ge (d + 1) i with q2 | q2
        · have := idx_lt so hx hi q2
          omega
        · have : i = d + 1 := by omega
          subst this
          rw [hi] at hx
          injection hx with hx
          omega
      · exact q
    rcases Nat.lt_or_ge i d with q | q
    · have hre : r < e := idx_lt so hi he' q
      obtain ⟨x, hx, h1, h2⟩ := b.dom r fun e0 h0 => by rw [he] at h0; cases h0; exact hre
      exact ⟨x, sub x hx, h1, h2⟩
    · have : i = d := by omega
      subst this
      rw [hi] at he'
      cases he'
      exact de
  refine ⟨b.hM, so, fun a ha => ?_, lt, fun x hx => ?_, np, ch, fun p => ?_⟩
  · obtain ⟨i, hi⟩ := List.getElem?_of_mem (b.ini a ha)
    exact List.mem_of_getElem? (pre _ _ hi)
  · rcases xd x hx with h | h
    · obtain ⟨i, h1, h2⟩ := b.xd x h
      exact ⟨i, by omega, pre _ _ h2⟩
    · subst h
      exact ⟨d, by omega, he'⟩
  · induction p using Nat.strongRecOn with
    | _ p ih =>
      intro hp
      rcases Nat.lt_or_ge p e with h | h
      · obtain ⟨x, hx, h1, h2⟩ := b.dom p fun e0 h0 => by rw [he] at h0; cases h0; exact h
        exact ⟨x, sub x hx, h1, h2⟩
      · by_cases hm : p < M
        · obtain ⟨i, hi⟩ := List.getElem?_of_mem (b.ini p hm)
          exact key p (List.mem_of_getElem? (pre _ _ hi)) hp
        · obtain ⟨p0, c, q⟩ := path_cases hm
          rcases q with ⟨e1, l⟩ | q
          · obtain ⟨q0, hq0, h1, h2⟩ := ih p0 l fun e' h' => Nat.lt_trans l (hp e' h')
            obtain ⟨r, hr, h3, h4⟩ := ch q0 hq0 c
            have h5 : child M q0 c ≤ p := by rw [e1]; unfold child; omega
            obtain ⟨x, hx, h6, h7⟩ := key r hr fun e' h' => Nat.lt_of_le_of_lt (Nat.le_trans h3 h5) (hp e' h')
            refine ⟨x, hx, by omega, ?_⟩
            rw [h7, h4, nd_child b.hM, h2, e1, nd_child b.hM]
          · exact absurd q (Nat.ne_of_gt b.hM)
end
end LP

namespace LP
open LF
variable {A B : List R} {st st' : List Nat} {M : Nat} {W X : List Nat} {d e : Nat}
theorem BI.init (hM : 0 < M) : BI A B st st' M (List.range M) 0 [] := by
  refine ⟨hM, List.pairwise_lt_range, fun a ha => List.mem_range.mpr ha, fun x hx => .inl (List.mem_range.mp hx), (fun x hx => by cases hx), (fun x hx => by cases hx), (fun x hx => by cases hx), fun p hp => ?_⟩
  have := hp 0 (by rw [List.getElem?_range hM])
  omega
theorem BI.xlt (b : BI A B st st' M W d X) (he : W[d]? = some e) : ∀ x ∈ X, x < e := fun x hx => by
  obtain ⟨i, hi, h⟩ := b.xd x hx
  exact idx_lt b.so h he hi
theorem BI.above (b : BI A B st st' M W d X) (he : W[d]? = some e) (c : Bool) : ∀ x ∈ W, x < child M e c := fun x hx => by
  rcases b.lt x hx with h | ⟨y, hy, k, h⟩
  · exact Nat.lt_of_lt_of_le h (child_ge e c)
  · have := b.xlt he y hy
    subst h
    unfold child bn
    cases k <;> cases c <;> simp <;> omega
theorem BI.skip (b : BI A B st st' M W d X) (he : W[d]? = some e) {q : Nat} (hq : q ∈ X) (h : nd A B st st' M q = nd A B st st' M e) : BI A B st st' M W (d + 1) X :=
  b.next he b.so (fun _ _ h => h) b.lt (fun _ h => h) (fun _ h => .inl h) b.np b.ch ⟨q, hq, Nat.le_of_lt (b.xlt he q hq), h⟩
theorem child_mono (M e : Nat) : child M e false < child M e true := by unfold child bn; simp
/-- e is led on, with these of its two -/
theorem BI.lead (b : BI A B st st' M W d X) (he : W[d]? = some e) (np : ∀ c, ¬ Pt A B st st' M e c) {ad : List Nat} (so : ad.Pairwise (· < ·)) (sub : ∀ x ∈ ad, ∃ c, x = child M e c)
    (ch : ∀ c, ∃ r ∈ W ++ ad, r ≤ child M e c ∧ nd A B st st' M r = nd A B st st' M (child M e c)) : BI A B st st' M (W ++ ad) (d + 1) (X ++ [e]) := by
  refine b.next he ?_ (fun i x h => ?_) (fun x hx => ?_) (fun x hx => List.mem_append_left _ hx) (fun x hx => ?_) (fun x hx => ?_) (fun x hx => ?_) ⟨e, List.mem_append_right _ (List.mem_singleton.mpr rfl), Nat.le_refl _, rfl⟩
  · refine List.pairwise_append.mpr ⟨b.so, so, fun x hx y hy => ?_⟩
    obtain ⟨c, rfl⟩ := sub y hy
    exact b.above he c x hx
  · rw [List.getElem?_append_left (List.getElem?_eq_some_iff.mp h).1]
    exact h
  · rcases List.mem_append.mp hx with h | h
    · rcases b.lt x h with q | ⟨y, hy, c, q⟩
      · exact .inl q
      · exact .inr ⟨y, List.mem_append_left _ hy, c, q⟩
    · obtain ⟨c, q⟩ := sub x h
      exact .inr ⟨e, List.mem_append_right _ (List.mem_singleton.mpr rfl), c, q⟩
  · rcases List.mem_append.mp hx with h | h
    · exact .inl h
    · exact .inr (List.mem_singleton.mp h)
  · rcases List.mem_append.mp hx with h | h
    · exact b.np x h
    · rw [List.mem_singleton.mp h]
      exact np
  · rcases List.mem_append.mp hx with h | h
    · intro c
      obtain ⟨r, h1, h2⟩ := b.ch x h c
      exact ⟨r, List.mem_append_left _ h1, h2⟩
    · rw [List.mem_singleton.mp h]
      exact ch
theorem BI.both (b : BI A B st st' M W d X) (he : W[d]? = some e) (np : ∀ c, ¬ Pt A B st st' M e c) : BI A B st st' M (W ++ [child M e false, child M e true]) (d + 1) (X ++ [e]) := by
  refine b.lead he np ?_ (fun x hx => ?_) (fun c => ⟨child M e c, List.mem_append_right _ ?_, Nat.le_refl _, rfl⟩)
  · refine List.pairwise_cons.mpr ⟨fun y hy => ?_, List.pairwise_singleton _ _⟩
    rw [List.mem_singleton.mp hy]
    exact child_mono M e
  · simp only [List.mem_cons, List.not_mem_nil, or_false] at hx
    rcases hx with h | h
    · exact ⟨false, h⟩
    · exact ⟨true, h⟩
  · cases c <;> simp
/-! ### nodes are few -/
structure Ok (A B : List R) (st st' : List Nat) (M : Nat) : Prop where
  oA : TOk A
  oB : TOk B
  sA : ∀ x ∈ st, x < A.length
  sB : ∀ x ∈ st', x < B.length
  m1 : st.length = M
  m2 : st'.length = M
  hM : 0 < M
def NOk (A B : List R) (n : Node) : Prop := n.1 < A.length ∧ n.2.1 < B.length
theorem row_of {X : List R} {i : Nat} (h : i < X.length) : X[i]? = some (rw_ X i) := by
  unfold rw_
  rw [List.getElem?_eq_getElem h, List.getD_eq_getElem?_getD, List.getElem?_eq_getElem h]
  rfl
theorem nx_ok {X : List R} (o : TOk X) {i : Nat} (h : i < X.length) (b : Bool) : nx (rw_ X i) b < X.length := nx_lt o (row_of h) b
theorem step_ok (oA : TOk A) (oB : TOk B) {n : Node} (h : NOk A B n) (c : Bool) : NOk A B (stepN A B n c) := ⟨nx_ok oA h.1 _, nx_ok oB h.2 _⟩
theorem nd_ok (o : Ok A B st st' M) (p : Nat) : NOk A B (nd A B st st' M p) := by
  induction p using Nat.strongRecOn with
  | _ p ih =>
    by_cases h : p < M
    · rw [nd_root h]
      refine ⟨?_, ?_⟩
      · show st.getD p 0 < _
        rw [List.getD_eq_getElem?_getD, List.getElem?_eq_getElem (by rw [o.m1]; exact h)]
        exact o.sA _ (List.getElem_mem ..)
      · show st'.getD p 0 < _
        rw [List.getD_eq_getElem?_getD, List.getElem?_eq_getElem (by rw [o.m2]; exact h)]
        exact o.sB _ (List.getElem_mem ..)
    · rw [nd, dif_neg (by have := o.hM; omega)]
      exact step_ok o.oA o.oB (ih _ (by have := o.hM; omega)) _
def en (B : List R) (n : Node) : Nat := (n.1 * B.length + n.2.1) * 2 + bn n.2.2
theorem en_lt {n : Node} (h : NOk A B n) : en B n < A.length * B.length * 2 := by
  obtain ⟨h1, h2⟩ := h
  have h3 : n.1 * B.length + n.2.1 < A.length * B.length := by
    have h4 : (n.1 + 1) * B.length ≤ A.length * B.length := Nat.mul_le_mul_right _ h1
    rw [Nat.succ_mul] at h4
    omega
  unfold en bn
  split <;> omega
theorem en_inj {n m : Node} (hn : NOk A B n) (hm : NOk A B m) (h : en B n = en B m) : n = m := by
  obtain ⟨n1, n2, n3⟩ := n
  obtain ⟨m1, m2, m3⟩ := m
  obtain ⟨_, hn2⟩ := hn
  obtain ⟨_, hm2⟩ := hm
  simp only at hn2 hm2
  have hb : ∀ c : Bool, bn c < 2 := fun c => by cases c <;> decide
  have e3 : bn n3 = bn m3 := by
    have a := hb n3
    have b := hb m3
    unfold en at h
    simp only at h
    omega
  have e12 : n1 * B.length + n2 = m1 * B.length + m2 := by
    unfold en at h
    simp only at h
    omega
  have hB : 0 < B.length := by omega
  have d1 : n1 = m1 := by
    have a : (n1 * B.length + n2) / B.length = n1 := by
      rw [Nat.mul_comm, Nat.mul_add_div hB, Nat.div_eq_of_lt hn2, Nat.add_zero]
    have b : (m1 * B.length + m2) / B.length = m1 := by
      rw [Nat.mul_comm, Nat.mul_add_div hB, Nat.div_eq_of_lt hm2, Nat.add_zero]
    rw [← a, ← b, e12]
  subst d1
  have d2 : n2 = m2 := by omega
  subst d2
  have : n3 = m3 := by cases n3 <;> cases m3 <;> first | rfl | cases e3
  subst this
  rfl
theorem nodes_few (ns : List Node) (nd : ns.Nodup) (ok : ∀ n ∈ ns, NOk A B n) : ns.length ≤ A.length * B.length * 2 := by
  have := few (A.length * B.length * 2) (l := ns.map (en B)) ?_ ?_
  · rwa [List.length_map] at this
  · refine List.pairwise_map.mpr (List.Pairwise.imp_of_mem (fun {a b} ha hb h e => h ?_) nd)
    exact en_inj (ok a ha) (ok b hb) e
  · intro x hx
    obtain ⟨n, hn, rfl⟩ := List.mem_map.mp hx
    exact en_lt (ok n hn)
/-- alike from all starts: nothing parts -/
theorem alike_none (o : Ok A B st st' M) (h : F2 (fun a b => Alk A a B b) st st') : Res A B st st' M none := by
  have key : ∀ p, Alk A (nd A B st st' M p).1 B (nd A B st st' M p).2.1 := by
    intro p
    induction p using Nat.strongRecOn with
    | _ p ih =>
      by_cases hp : p < M
      · rw [nd_root hp]
        have h1 : st[p]? = some (st.getD p 0) := by rw [List.getD_eq_getElem?_getD, List.getElem?_eq_getElem (by rw [o.m1]; exact hp)]; rfl
        have h2 : st'[p]? = some (st'.getD p 0) := by rw [List.getD_eq_getElem?_getD, List.getElem?_eq_getElem (by rw [o.m2]; exact hp)]; rfl
        exact h.get h1 h2
      · have hM := o.hM
        rw [nd, dif_neg (by omega)]
        have ok := nd_ok o ((p - M) / 2)
        exact (alk_nx (p := ((nd A B st st' M ((p - M) / 2)).1, (nd A B st st' M ((p - M) / 2)).2.1)) (ih _ (by omega)) (row_of ok.1) (row_of ok.2) _).2
  intro p c hp
  have ok := nd_ok o p
  exact hp (alk_nx (p := ((nd A B st st' M p).1, (nd A B st st' M p).2.1)) (key p) (row_of ok.1) (row_of ok.2) _).1
theorem inj_on {f : Nat → Node} : ∀ {X : List Nat}, (X.map f).Nodup → ∀ a ∈ X, ∀ b ∈ X, f a = f b → a = b
  | [], _, a, ha, _, _, _ => by cases ha
  | x :: xs, h, a, ha, b, hb, e => by
    rw [List.map_cons, List.nodup_cons] at h
    rcases List.mem_cons.mp ha with ha1 | ha1 <;> rcases List.mem_cons.mp hb with hb1 | hb1
    · rw [ha1, hb1]
    · rw [ha1] at e
      exact absurd (by rw [e]; exact List.mem_map.mpr ⟨b, hb1, rfl⟩) h.1
    · rw [hb1] at e
      exact absurd (by rw [← e]; exact List.mem_map.mpr ⟨a, ha1, rfl⟩) h.1
    · exact inj_on h.2 a ha1 b hb1 e
/-- the calls on the way are few -/
theorem calls_few (o : Ok A B st st' M) (b : BI A B st st' M W d X) (nX : (X.map (nd A B st st' M)).Nodup) : ∀ x ∈ W, (calls M x).length ≤ A.length * B.length * 2 := by
  have key : ∀ x, x ∈ W → ∃ l : List Nat, l.Pairwise (· < ·) ∧ (∀ y ∈ l, y ∈ X ∧ y < x) ∧ l.length = (calls M x).length := by
    intro x
    induction x using Nat.strongRecOn with
    | _ x ih =>
      intro hx
      rcases b.lt x hx with h | ⟨y, hy, c, h⟩
      · exact ⟨[], List.Pairwise.nil, (fun y hy => by cases hy), by rw [calls_root h]; rfl⟩
      · obtain ⟨i, _, hi⟩ := b.xd y hy
        have hyx : y < x := by
          have := b.hM
          rw [h]; unfold child; omega
        obtain ⟨l, l1, l2, l3⟩ := ih y hyx (List.mem_of_getElem? hi)
        refine ⟨l ++ [y], List.pairwise_append.mpr ⟨l1, List.pairwise_singleton _ _, fun u hu v hv => by rw [List.mem_singleton.mp hv]; exact (l2 u hu).2⟩, fun u hu => ?_, ?_⟩
        · rcases List.mem_append.mp hu with q | q
          · exact ⟨(l2 u q).1, Nat.lt_trans (l2 u q).2 hyx⟩
          · rw [List.mem_singleton.mp q]
            exact ⟨hy, hyx⟩
        · rw [h, calls_child b.hM, List.length_append, List.length_append, l3]
          rfl
  intro x hx
  obtain ⟨l, l1, l2, l3⟩ := key x hx
  have := nodes_few (A := A) (B := B) (l.map (nd A B st st' M)) ?_ ?_
  · rw [List.length_map] at this
    omega
  · refine List.pairwise_map.mpr (List.Pairwise.imp_of_mem (fun {a c} ha hc h e => ?_) l1)
    have := inj_on nX a (l2 a ha).1 c (l2 c hc).1 e
    omega
  · intro n hn
    obtain ⟨p, _, rfl⟩ := List.mem_map.mp hn
    exact nd_ok o p
theorem few_X (o : Ok A B st st' M) (nX : (X.map (nd A B st st' M)).Nodup) : X.length ≤ A.length * B.length * 2 := by
  have := nodes_few (A := A) (B := B) _ nX fun n hn => by
    obtain ⟨p, _, rfl⟩ := List.mem_map.mp hn
    exact nd_ok o p
  rwa [List.length_map] at this
end LP

namespace PwM
open LF LP
/-- a state with the counts of the two, as one number -/
def cn (k : Nat) (q : Nat × Nat × Nat) : Nat := (q.1 * k + q.2.1) * k + q.2.2
/-- a call, of the case ahead (false) or behind: whether they change places, and what then is -/
def pst (A : List R) (k : Nat) (q : Nat × Nat × Nat) : Bool → Bool × (Nat × Nat × Nat)
  | false => if q.2.1 + 1 < k then (false, q.1, q.2.1 + 1, q.2.2)
    else if (rw_ A q.1).2.1 = true then (true, (rw_ A q.1).1, q.2.2, 0) else (false, (rw_ A q.1).1, 0, q.2.2)
  | true => if q.2.2 + 1 < k then (false, q.1, q.2.1, q.2.2 + 1)
    else if (rw_ A q.1).2.2.2 = true then (true, (rw_ A q.1).2.2.1, 0, q.2.1) else (false, (rw_ A q.1).2.2.1, q.2.1, 0)
def pout (A : List R) (k : Nat) : Nat × Nat × Nat → List Bool → List (Option Bool)
  | _, [] => []
  | q, b :: w => some (pst A k q b).1 :: pout A k (pst A k q b).2 w
def prow (A : List R) (k : Nat) (q : Nat × Nat × Nat) : R := (cn k (pst A k q false).2, (pst A k q false).1, cn k (pst A k q true).2, (pst A k q true).1)
def dec (k i : Nat) : Nat × Nat × Nat := (i / k / k, i / k % k, i % k)
def pw (A : List R) (k : Nat) : List R := (List.range (A.length * k * k)).map fun i => prow A k (dec k i)
def OkQ (A : List R) (k : Nat) (q : Nat × Nat × Nat) : Prop := q.1 < A.length ∧ q.2.1 < k ∧ q.2.2 < k
variable {A B : List R} {k j : Nat} {q : Nat × Nat × Nat}
theorem dec_cn {q : Nat × Nat × Nat} (h1 : q.2.1 < k) (h2 : q.2.2 < k) : dec k (cn k q) = q := by
  obtain ⟨s, a, b⟩ := q
  have hk : 0 < k := by omega
  unfold dec cn
  dsimp only at h1 h2 ⊢
  have e1 : ((s * k + a) * k + b) / k = s * k + a := by
    rw [Nat.mul_comm, Nat.mul_add_div hk, Nat.div_eq_of_lt h2, Nat.add_zero]
  have e2 : ((s * k + a) * k + b) % k = b := by
    rw [Nat.mul_comm, Nat.mul_add_mod, Nat.mod_eq_of_lt h2]
  have e3 : (s * k + a) / k = s := by
    rw [Nat.mul_comm, Nat.mul_add_div hk, Nat.div_eq_of_lt h1, Nat.add_zero]
  have e4 : (s * k + a) % k = a := by
    rw [Nat.mul_comm, Nat.mul_add_mod, Nat.mod_eq_of_lt h1]
  rw [e1, e2, e3, e4]
theorem cn_lt (h : OkQ A k q) : cn k q < A.length * k * k := by
  obtain ⟨h0, h1, h2⟩ := h
  unfold cn
  have a1 : (q.1 + 1) * k ≤ A.length * k := Nat.mul_le_mul_right _ h0
  rw [Nat.succ_mul] at a1
  have a2 : (q.1 * k + q.2.1 + 1) * k ≤ A.length * k * k := Nat.mul_le_mul_right _ (by omega)
  rw [Nat.succ_mul] at a2
  omega
theorem dec_ok {i : Nat} (h : i < A.length * k * k) : OkQ A k (dec k i) := by
  have hk : 0 < k := by
    rcases Nat.eq_zero_or_pos k with z | z
    · rw [z, Nat.mul_zero] at h
      omega
    · exact z
  refine ⟨?_, Nat.mod_lt _ hk, Nat.mod_lt _ hk⟩
  show i / k / k < _
  rw [Nat.div_lt_iff_lt_mul hk, Nat.div_lt_iff_lt_mul hk]
  exact h
theorem cn_dec {i : Nat} : cn k (dec k i) = i := by
  unfold cn dec
  dsimp only
  rw [Nat.div_add_mod' (i / k) k, Nat.div_add_mod' i k]
theorem pst_ok (o : TOk A) (h : OkQ A k q) (b : Bool) : OkQ A k (pst A k q b).2 := by
  obtain ⟨h0, h1, h2⟩ := h
  have r1 := nx_ok o h0 false
  have r2 := nx_ok o h0 true
  have hk : 0 < k := by omega
  cases b with
  | false =>
    by_cases g : q.2.1 + 1 < k
    · rw [show pst A k q false = _ from if_pos g]
      exact ⟨h0, g, h2⟩
    · by_cases f : (rw_ A q.1).2.1 = true
      · rw [show pst A k q false = _ from (if_neg g).trans (if_pos f)]
        exact ⟨r1, h2, hk⟩
      · rw [show pst A k q false = _ from (if_neg g).trans (if_neg f)]
        exact ⟨r1, hk, h2⟩
  | true =>
    by_cases g : q.2.2 + 1 < k
    · rw [show pst A k q true = _ from if_pos g]
      exact ⟨h0, h1, g⟩
    · by_cases f : (rw_ A q.1).2.2.2 = true
      · rw [show pst A k q true = _ from (if_neg g).trans (if_pos f)]
        exact ⟨r2, hk, h1⟩
      · rw [show pst A k q true = _ from (if_neg g).trans (if_neg f)]
        exact ⟨r2, h1, hk⟩
theorem pw_len : (pw A k).length = A.length * k * k := by unfold pw; rw [List.length_map, List.length_range]
theorem pw_get (h : OkQ A k q) : (pw A k)[cn k q]? = some (prow A k q) := by
  unfold pw
  rw [List.getElem?_map, List.getElem?_range (cn_lt h)]
  show some (prow A k (dec k (cn k q))) = _
  rw [dec_cn h.2.1 h.2.2]
theorem pw_tok (o : TOk A) : TOk (pw A k) := by
  intro r hr
  rw [pw_len]
  obtain ⟨i, hi, rfl⟩ := List.mem_map.mp hr
  have h := dec_ok (List.mem_range.mp hi)
  exact ⟨cn_lt (pst_ok o h false), cn_lt (pst_ok o h true)⟩
theorem out_pw (o : TOk A) (h : OkQ A k q) (w : List Bool) : out (pw A k) (cn k q) w = pout A k q w := by
  induction w generalizing q with
  | nil => rfl
  | cons b w ih =>
    rw [out_cons (pw_get h)]
    have := ih (pst_ok o h b)
    cases b with
    | false => exact congrArg _ this
    | true => exact congrArg _ this
theorem pout_alk (oA : TOk A) (oB : TOk B) {s s' : Nat} (hs : s < A.length) (hs' : s' < B.length) (h : Alk A s B s') (a b : Nat) (w : List Bool) : pout A k (s, a, b) w = pout B k (s', a, b) w := by
  induction w generalizing s s' a b with
  | nil => rfl
  | cons c w ih =>
    have n0 := alk_nx (p := (s, s')) h (row_of hs) (row_of hs') false
    have n1 := alk_nx (p := (s, s')) h (row_of hs) (row_of hs') true
    have f0 : (rw_ A s).2.1 = (rw_ B s').2.1 := n0.1
    have f1 : (rw_ A s).2.2.2 = (rw_ B s').2.2.2 := n1.1
    have i0 := fun a b => ih (nx_ok oA hs false) (nx_ok oB hs' false) n0.2 a b
    have i1 := fun a b => ih (nx_ok oA hs true) (nx_ok oB hs' true) n1.2 a b
    unfold pout
    cases c with
    | false =>
      unfold pst
      dsimp only
      by_cases g : a + 1 < k
      · rw [if_pos g, if_pos g]
        exact congrArg _ (ih hs hs' h _ _)
      · rw [if_neg g, if_neg g, f0]
        split
        · exact congrArg _ (i0 _ _)
        · exact congrArg _ (i0 _ _)
    | true =>
      unfold pst
      dsimp only
      by_cases g : b + 1 < k
      · rw [if_pos g, if_pos g]
        exact congrArg _ (ih hs hs' h _ _)
      · rw [if_neg g, if_neg g, f1]
        split
        · exact congrArg _ (i1 _ _)
        · exact congrArg _ (i1 _ _)
theorem alk_pw (oA : TOk A) (oB : TOk B) {s s' a b : Nat} (hs : s < A.length) (hs' : s' < B.length) (h : Alk A s B s') (ha : a < k) (hb : b < k) : Alk (pw A k) (cn k (s, a, b)) (pw B k) (cn k (s', a, b)) := fun w => by
  rw [out_pw oA ⟨hs, ha, hb⟩, out_pw oB ⟨hs', ha, hb⟩]
  exact pout_alk oA oB hs hs' h a b w
theorem rw_pw (h : OkQ A j q) : rw_ (pw A j) (cn j q) = prow A j q := by
  unfold rw_
  rw [List.getD_eq_getElem?_getD, pw_get h]
  rfl
/-- a power of a power -/
theorem pout_pw (o : TOk A) {s a b a' b' : Nat} (h : OkQ A j (s, a, b)) (ha : a' < k) (hb : b' < k) (w : List Bool) : pout (pw A j) k (cn j (s, a, b), a', b') w = pout A (j * k) (s, a * k + a', b * k + b') w := by
  induction w generalizing s a b a' b' with
  | nil => rfl
  | cons c w ih =>
    obtain ⟨h0, h1, h2⟩ := id h
    dsimp only at h0 h1 h2
    have hk : 0 < k := by omega
    have hj : 0 < j := by omega
    have ba : a * k + k ≤ j * k := by
      have := Nat.mul_le_mul_right k h1
      rwa [Nat.succ_mul] at this
    have bb : b * k + k ≤ j * k := by
      have := Nat.mul_le_mul_right k h2
      rwa [Nat.succ_mul] at this
    have r0 := nx_ok o h0 false
    have r1 := nx_ok o h0 true
    unfold pout
    cases c with
    | false =>
      by_cases g : a' + 1 < k
      · have e1 : pst (pw A j) k (cn j (s, a, b), a', b') false = (false, cn j (s, a, b), a' + 1, b') := if_pos g
        have e2 : pst A (j * k) (s, a * k + a', b * k + b') false = (false, s, a * k + (a' + 1), b * k + b') := if_pos (by dsimp only; omega)
        rw [e1, e2]
        exact congrArg _ (ih h g hb)
      · have ea : a' + 1 = k := by omega
        have e1 : pst (pw A j) k (cn j (s, a, b), a', b') false = if (prow A j (s, a, b)).2.1 = true then (true, (prow A j (s, a, b)).1, b', 0) else (false, (prow A j (s, a, b)).1, 0, b') := by
          unfold pst
          dsimp only
          rw [if_neg g, rw_pw h]
        by_cases g2 : a + 1 < j
        · have g3 : (a + 1) * k + k ≤ j * k := by
            have := Nat.mul_le_mul_right k g2
            rwa [Nat.succ_mul] at this
          rw [Nat.succ_mul] at g3
          have p1 : pst A j (s, a, b) false = (false, s, a + 1, b) := if_pos g2
          have e2 : pst A (j * k) (s, a * k + a', b * k + b') false = (false, s, a * k + a' + 1, b * k + b') := if_pos (by dsimp only; omega)
          have e3 : pst (pw A j) k (cn j (s, a, b), a', b') false = (false, cn j (s, a + 1, b), 0, b') := by
            rw [e1]
            unfold prow
            rw [p1]
            rfl
          rw [e3, e2]
          have := ih (s := s) (a := a + 1) (b := b) (a' := 0) (b' := b') ⟨h0, g2, h2⟩ hk hb
          rw [show (a + 1) * k + 0 = a * k + a' + 1 by rw [Nat.succ_mul]; omega] at this
          exact congrArg _ this
        · have ja : a + 1 = j := by omega
          have g3 : a * k + a' + 1 = j * k := by rw [← ja, Nat.succ_mul]; omega
          have e2 : pst A (j * k) (s, a * k + a', b * k + b') false = if (rw_ A s).2.1 = true then (true, (rw_ A s).1, b * k + b', 0) else (false, (rw_ A s).1, 0, b * k + b') := if_neg (by dsimp only; omega)
          have p1 : pst A j (s, a, b) false = if (rw_ A s).2.1 = true then (true, (rw_ A s).1, b, 0) else (false, (rw_ A s).1, 0, b) := if_neg g2
          rw [e1, e2]
          unfold prow
          rw [p1]
          by_cases f : (rw_ A s).2.1 = true
          · rw [if_pos f, if_pos f]
            have := ih (s := (rw_ A s).1) (a := b) (b := 0) (a' := b') (b' := 0) ⟨r0, h2, hj⟩ hb hk
            rw [show 0 * k + 0 = 0 by omega] at this
            exact congrArg _ this
          · rw [if_neg f, if_neg f]
            have := ih (s := (rw_ A s).1) (a := 0) (b := b) (a' := 0) (b' := b') ⟨r0, hj, h2⟩ hk hb
            rw [show 0 * k + 0 = 0 by omega] at this
            exact congrArg _ this
    | true =>
      by_cases g : b' + 1 < k
      · have e1 : pst (pw A j) k (cn j (s, a, b), a', b') true = (false, cn j (s, a, b), a', b' + 1) := if_pos g
        have e2 : pst A (j * k) (s, a * k + a', b * k + b') true = (false, s, a * k + a', b * k + (b' + 1)) := if_pos (by dsimp only; omega)
        rw [e1, e2]
        exact congrArg _ (ih h ha g)
      · have ea : b' + 1 = k := by omega
        have e1 : pst (pw A j) k (cn j (s, a, b), a', b') true = if (prow A j (s, a, b)).2.2.2 = true then (true, (prow A j (s, a, b)).2.2.1, 0, a') else (false, (prow A j (s, a, b)).2.2.1, a', 0) := by
          unfold pst
          dsimp only
          rw [if_neg g, rw_pw h]
        by_cases g2 : b + 1 < j
        · have g3 : (b + 1) * k + k ≤ j * k := by
            have := Nat.mul_le_mul_right k g2
            rwa [Nat.succ_mul] at this
          rw [Nat.succ_mul] at g3
          have p1 : pst A j (s, a, b) true = (false, s, a, b + 1) := if_pos g2
          have e2 : pst A (j * k) (s, a * k + a', b * k + b') true = (false, s, a * k + a', b * k + b' + 1) := if_pos (by dsimp only; omega)
          have e3 : pst (pw A j) k (cn j (s, a, b), a', b') true = (false, cn j (s, a, b + 1), a', 0) := by
            rw [e1]
            unfold prow
            rw [p1]
            rfl
          rw [e3, e2]
          have := ih (s := s) (a := a) (b := b + 1) (a' := a') (b' := 0) ⟨h0, h1, g2⟩ ha hk
          rw [show (b + 1) * k + 0 = b * k + b' + 1 by rw [Nat.succ_mul]; omega] at this
          exact congrArg _ this
        · have jb : b + 1 = j := by omega
          have g3 : b * k + b' + 1 = j * k := by rw [← jb, Nat.succ_mul]; omega
          have e2 : pst A (j * k) (s, a * k + a', b * k + b') true = if (rw_ A s).2.2.2 = true then (true, (rw_ A s).2.2.1, 0, a * k + a') else (false, (rw_ A s).2.2.1, a * k + a', 0) := if_neg (by dsimp only; omega)
          have p1 : pst A j (s, a, b) true = if (rw_ A s).2.2.2 = true then (true, (rw_ A s).2.2.1, 0, a) else (false, (rw_ A s).2.2.1, a, 0) := if_neg g2
          rw [e1, e2]
          unfold prow
          rw [p1]
          by_cases f : (rw_ A s).2.2.2 = true
          · rw [if_pos f, if_pos f]
            have := ih (s := (rw_ A s).2.2.1) (a := 0) (b := a) (a' := 0) (b' := a') ⟨r1, hj, h1⟩ hk ha
            rw [show 0 * k + 0 = 0 by omega] at this
            exact congrArg _ this
          · rw [if_neg f, if_neg f]
            have := ih (s := (rw_ A s).2.2.1) (a := a) (b := 0) (a' := a') (b' := 0) ⟨r1, h1, hj⟩ ha hk
            rw [show 0 * k + 0 = 0 by omega] at this
            exact congrArg _ this
theorem pout_one (o : TOk A) {s : Nat} (h : s < A.length) (w : List Bool) : pout A 1 (s, 0, 0) w = out A s w := by
  induction w generalizing s with
  | nil => rfl
  | cons c w ih =>
    rw [out_cons (row_of h)]
    unfold pout
    cases c with
    | false =>
      have e : pst A 1 (s, 0, 0) false = ((rw_ A s).2.1, (rw_ A s).1, 0, 0) := by
        unfold pst
        dsimp only
        rw [if_neg (by omega)]
        split <;> simp_all
      rw [e]
      exact congrArg _ (ih (nx_ok o h false))
    | true =>
      have e : pst A 1 (s, 0, 0) true = ((rw_ A s).2.2.2, (rw_ A s).2.2.1, 0, 0) := by
        unfold pst
        dsimp only
        rw [if_neg (by omega)]
        split <;> simp_all
      rw [e]
      exact congrArg _ (ih (nx_ok o h true))
end PwM

namespace PwM
open LF LP
variable {A B C : List R} {k j m : Nat} {q : Nat × Nat × Nat} {st st' st'' : List Nat}
/-- alike from all starts, m marks -/
structure Sim (m : Nat) (A : List R) (st : List Nat) (B : List R) (st' : List Nat) : Prop where
  l1 : st.length = m * m
  l2 : st'.length = m * m
  al : F2 (fun a b => Alk A a B b) st st'
theorem F2.at {R' : Nat → Nat → Prop} (hl : st.length = st'.length) (h : ∀ i, i < st.length → R' (st.getD i 0) (st'.getD i 0)) : F2 R' st st' :=
  F2.of hl fun i a b h1 h2 => by
    have hi := (List.getElem?_eq_some_iff.mp h1).1
    have := h i hi
    rwa [List.getD_eq_getElem?_getD, h1, List.getD_eq_getElem?_getD, h2] at this
theorem Sim.get (s : Sim m A st B st') {i : Nat} (h : i < m * m) : Alk A (st.getD i 0) B (st'.getD i 0) := by
  refine s.al.get (i := i) ?_ ?_
  · rw [List.getD_eq_getElem?_getD, List.getElem?_eq_getElem (by rw [s.l1]; exact h)]
    rfl
  · rw [List.getD_eq_getElem?_getD, List.getElem?_eq_getElem (by rw [s.l2]; exact h)]
    rfl
theorem Sim.mk' (l1 : st.length = m * m) (l2 : st'.length = m * m) (h : ∀ i, i < m * m → Alk A (st.getD i 0) B (st'.getD i 0)) : Sim m A st B st' :=
  ⟨l1, l2, F2.at (by rw [l1, l2]) fun i hi => h i (by rw [← l1]; exact hi)⟩
theorem Sim.symm (s : Sim m A st B st') : Sim m B st' A st := Sim.mk' s.l2 s.l1 fun i h w => (s.get h w).symm
theorem Sim.trans (s : Sim m A st B st') (t : Sim m B st' C st'') : Sim m A st C st'' := Sim.mk' s.l1 t.l2 fun i h w => (s.get h w).trans (t.get h w)
theorem Sim.refl (h : st.length = m * m) : Sim m A st A st := Sim.mk' h h fun _ _ _ => rfl
theorem Sim.lf (o : TOk A) (hs : ∀ x ∈ st, x < A.length) (h : st.length = m * m) : Sim m (lf A st).1 (lf A st).2 A st := ⟨by rw [lf_len]; exact h, h, lf_alk o hs⟩
theorem get_lt (hs : ∀ x ∈ st, x < A.length) {i : Nat} (h : i < st.length) : st.getD i 0 < A.length := by
  rw [List.getD_eq_getElem?_getD, List.getElem?_eq_getElem h]
  exact hs _ (List.getElem_mem ..)
/-- a start of the power, by its number -/
def sq (st : List Nat) (m k i : Nat) : Nat × Nat × Nat := (st.getD (i / (m * k) / k * m + i % (m * k) / k) 0, i / (m * k) % k, i % (m * k) % k)
def ps (st : List Nat) (m k : Nat) : List Nat := (List.range (m * k * (m * k))).map fun i => cn k (sq st m k i)
theorem ps_len : (ps st m k).length = m * k * (m * k) := by unfold ps; rw [List.length_map, List.length_range]
theorem ps_get {i : Nat} (h : i < m * k * (m * k)) : (ps st m k).getD i 0 = cn k (sq st m k i) := by
  unfold ps
  rw [List.getD_eq_getElem?_getD, List.getElem?_map, List.getElem?_range h]
  rfl
theorem two {N i : Nat} (h : i < N * N) : 0 < N ∧ i / N < N ∧ i % N < N := by
  have hN : 0 < N := by
    rcases Nat.eq_zero_or_pos N with z | z
    · rw [z] at h
      omega
    · exact z
  exact ⟨hN, by rw [Nat.div_lt_iff_lt_mul hN]; exact h, Nat.mod_lt _ hN⟩
theorem pos_of {m k : Nat} (h : 0 < m * k) : 0 < m ∧ 0 < k := by
  rcases Nat.eq_zero_or_pos m with z | z
  · rw [z, Nat.zero_mul] at h
    omega
  · rcases Nat.eq_zero_or_pos k with y | y
    · rw [y, Nat.mul_zero] at h
      omega
    · exact ⟨z, y⟩
theorem idx_lt {p r m : Nat} (hp : p < m) (hr : r < m) : p * m + r < m * m := by
  have := Nat.mul_le_mul_right m hp
  rw [Nat.succ_mul] at this
  omega
theorem sq_idx {i : Nat} (h : i < m * k * (m * k)) : i / (m * k) / k * m + i % (m * k) / k < m * m ∧ 0 < k := by
  obtain ⟨hN, h1, h2⟩ := two h
  obtain ⟨hm, hk⟩ := pos_of hN
  exact ⟨idx_lt (by rw [Nat.div_lt_iff_lt_mul hk]; exact h1) (by rw [Nat.div_lt_iff_lt_mul hk]; exact h2), hk⟩
theorem sq_ok (hs : ∀ x ∈ st, x < A.length) (hl : st.length = m * m) {i : Nat} (h : i < m * k * (m * k)) : OkQ A k (sq st m k i) := by
  obtain ⟨h1, hk⟩ := sq_idx h
  exact ⟨get_lt hs (by rw [hl]; exact h1), Nat.mod_lt _ hk, Nat.mod_lt _ hk⟩
theorem ps_lt (hs : ∀ x ∈ st, x < A.length) (hl : st.length = m * m) : ∀ x ∈ ps st m k, x < (pw A k).length := by
  intro x hx
  obtain ⟨i, hi, rfl⟩ := List.mem_map.mp hx
  rw [pw_len]
  exact cn_lt (sq_ok hs hl (List.mem_range.mp hi))
/-- powers of alike tables are alike -/
theorem Sim.pw (s : Sim m A st B st') (oA : TOk A) (oB : TOk B) (sA : ∀ x ∈ st, x < A.length) (sB : ∀ x ∈ st', x < B.length) : Sim (m * k) (pw A k) (ps st m k) (pw B k) (ps st' m k) := by
  refine Sim.mk' ps_len ps_len fun i h => ?_
  rw [ps_get h, ps_get h]
  obtain ⟨h1, hk⟩ := sq_idx h
  exact alk_pw oA oB (get_lt sA (by rw [s.l1]; exact h1)) (get_lt sB (by rw [s.l2]; exact h1)) (s.get h1) (Nat.mod_lt _ hk) (Nat.mod_lt _ hk)
/-- the power of a power -/
theorem Sim.pw2 (o : TOk A) (hs : ∀ x ∈ st, x < A.length) (hl : st.length = m * m) : Sim (m * j * k) (PwM.pw (PwM.pw A j) k) (ps (ps st m j) (m * j) k) (PwM.pw A (j * k)) (ps st m (j * k)) := by
  have e : m * (j * k) = m * j * k := (Nat.mul_assoc m j k).symm
  refine Sim.mk' ps_len (by rw [ps_len, e]) fun i h w => ?_
  have h' : i < m * (j * k) * (m * (j * k)) := by rw [e]; exact h
  obtain ⟨hN, hp, hq⟩ := two h
  obtain ⟨hmj, hk⟩ := pos_of hN
  obtain ⟨hm, hj⟩ := pos_of hmj
  have hp2 : i / (m * j * k) / k < m * j := by rw [Nat.div_lt_iff_lt_mul hk]; exact hp
  have hq2 : i % (m * j * k) / k < m * j := by rw [Nat.div_lt_iff_lt_mul hk]; exact hq
  have h2 := idx_lt hp2 hq2
  rw [ps_get h, ps_get h']
  have e1 : sq (ps st m j) (m * j) k i = (cn j (sq st m j (i / (m * j * k) / k * (m * j) + i % (m * j * k) / k)), i / (m * j * k) % k, i % (m * j * k) % k) := by
    unfold sq
    rw [ps_get h2]
    rfl
  have d1 : (i / (m * j * k) / k * (m * j) + i % (m * j * k) / k) / (m * j) = i / (m * j * k) / k := by
    rw [Nat.mul_comm, Nat.mul_add_div hmj, Nat.div_eq_of_lt hq2, Nat.add_zero]
  have d2 : (i / (m * j * k) / k * (m * j) + i % (m * j * k) / k) % (m * j) = i % (m * j * k) / k := by
    rw [Nat.mul_comm, Nat.mul_add_mod, Nat.mod_eq_of_lt hq2]
  have ok1 := sq_ok (k := j) hs hl h2
  have e2 : sq st m (j * k) i = ((sq st m j (i / (m * j * k) / k * (m * j) + i % (m * j * k) / k)).1,
      (sq st m j (i / (m * j * k) / k * (m * j) + i % (m * j * k) / k)).2.1 * k + i / (m * j * k) % k,
      (sq st m j (i / (m * j * k) / k * (m * j) + i % (m * j * k) / k)).2.2 * k + i % (m * j * k) % k) := by
    unfold sq
    rw [d1, d2, e]
    dsimp only
    generalize i / (m * j * k) = p
    generalize i % (m * j * k) = r
    have c1 : ∀ x : Nat, x / (j * k) = x / k / j := fun x => by rw [Nat.mul_comm j k, Nat.div_div_eq_div_mul]
    have c2 : ∀ x : Nat, x % (j * k) = x / k % j * k + x % k := fun x => by rw [Nat.mul_comm j k, Nat.mod_mul, Nat.mul_comm k, Nat.add_comm]
    rw [c1, c1, c2, c2]
  generalize sq st m j (i / (m * j * k) / k * (m * j) + i % (m * j * k) / k) = z at e1 e2 ok1
  obtain ⟨s, a, b⟩ := z
  obtain ⟨o1, o2, o3⟩ := id ok1
  dsimp only at o1 o2 o3
  have hk1 := Nat.mod_lt (i / (m * j * k)) hk
  have hk2 := Nat.mod_lt (i % (m * j * k)) hk
  rw [e1, e2, out_pw (pw_tok o) ⟨by rw [pw_len]; exact cn_lt ok1, hk1, hk2⟩, out_pw o ⟨o1, ?_, ?_⟩]
  · exact pout_pw o ok1 hk1 hk2 w
  · dsimp only
    have := Nat.mul_le_mul_right k o2
    rw [Nat.succ_mul] at this
    omega
  · dsimp only
    have := Nat.mul_le_mul_right k o3
    rw [Nat.succ_mul] at this
    omega
theorem Sim.one (o : TOk A) (hs : ∀ x ∈ st, x < A.length) (hl : st.length = m * m) : Sim m (PwM.pw A 1) (ps st m 1) A st := by
  refine Sim.mk' (by rw [ps_len, Nat.mul_one]) hl fun i h w => ?_
  have h' : i < m * 1 * (m * 1) := by rw [Nat.mul_one]; exact h
  obtain ⟨hN, _⟩ := two h
  rw [ps_get h']
  have e : sq st m 1 i = (st.getD i 0, 0, 0) := by
    unfold sq
    rw [Nat.mul_one, Nat.div_one, Nat.div_one, Nat.mod_one, Nat.mod_one, Nat.div_add_mod']
  rw [e, out_pw o ⟨get_lt hs (by rw [hl]; exact h), Nat.one_pos, Nat.one_pos⟩]
  exact pout_one o (get_lt hs (by rw [hl]; exact h)) w
/-! ### the law's own table of counts -/
def lcn (n k : Nat) (q : Nat × Nat × Nat) : Nat := (q.2.1 * k + q.2.2) * n + q.1
def lrow (A : List R) (k : Nat) (q : Nat × Nat × Nat) : R := (lcn A.length k (pst A k q false).2, (pst A k q false).1, lcn A.length k (pst A k q true).2, (pst A k q true).1)
def ldec (n k i : Nat) : Nat × Nat × Nat := (i % n, i / n / k, i / n % k)
def lpw (A : List R) (k : Nat) : List R := (List.range (k * k * A.length)).map fun i => lrow A k (ldec A.length k i)
def lps (st : List Nat) (m k n : Nat) : List Nat := (List.range (m * k * (m * k))).map fun i => lcn n k (sq st m k i)
theorem lcn_lt (h : OkQ A k q) : lcn A.length k q < k * k * A.length := by
  obtain ⟨h0, h1, h2⟩ := h
  unfold lcn
  have a1 := idx_lt h1 h2
  have a2 : (q.2.1 * k + q.2.2 + 1) * A.length ≤ k * k * A.length := Nat.mul_le_mul_right _ a1
  rw [Nat.succ_mul] at a2
  omega
theorem ldec_cn (h : OkQ A k q) : ldec A.length k (lcn A.length k q) = q := by
  obtain ⟨s, a, b⟩ := q
  obtain ⟨h0, h1, h2⟩ := h
  dsimp only at h0 h1 h2
  unfold ldec lcn
  dsimp only
  have hk : 0 < k := by omega
  have hA : 0 < A.length := by omega
  have e1 : ((a * k + b) * A.length + s) / A.length = a * k + b := by
    rw [Nat.mul_comm, Nat.mul_add_div hA, Nat.div_eq_of_lt h0, Nat.add_zero]
  have e2 : ((a * k + b) * A.length + s) % A.length = s := by
    rw [Nat.mul_comm, Nat.mul_add_mod, Nat.mod_eq_of_lt h0]
  have e3 : (a * k + b) / k = a := by
    rw [Nat.mul_comm, Nat.mul_add_div hk, Nat.div_eq_of_lt h2, Nat.add_zero]
  have e4 : (a * k + b) % k = b := by
    rw [Nat.mul_comm, Nat.mul_add_mod, Nat.mod_eq_of_lt h2]
  rw [e1, e2, e3, e4]
theorem lpw_len : (lpw A k).length = k * k * A.length := by unfold lpw; rw [List.length_map, List.length_range]
theorem lps_len {n : Nat} : (lps st m k n).length = m * k * (m * k) := by unfold lps; rw [List.length_map, List.length_range]
theorem lpw_get (h : OkQ A k q) : (lpw A k)[lcn A.length k q]? = some (lrow A k q) := by
  unfold lpw
  rw [List.getElem?_map, List.getElem?_range (lcn_lt h)]
  show some (lrow A k (ldec A.length k (lcn A.length k q))) = _
  rw [ldec_cn h]
theorem ldec_ok {i : Nat} (h : i < k * k * A.length) : OkQ A k (ldec A.length k i) := by
  have hA : 0 < A.length := by
    rcases Nat.eq_zero_or_pos A.length with z | z
    · rw [z, Nat.mul_zero] at h
      omega
    · exact z
  have h1 : i / A.length < k * k := by rw [Nat.div_lt_iff_lt_mul hA]; exact h
  obtain ⟨hk, h2, h3⟩ := two h1
  exact ⟨Nat.mod_lt _ hA, h2, h3⟩
theorem lpw_tok (o : TOk A) : TOk (lpw A k) := by
  intro r hr
  rw [lpw_len]
  obtain ⟨i, hi, rfl⟩ := List.mem_map.mp hr
  have h := ldec_ok (List.mem_range.mp hi)
  exact ⟨lcn_lt (pst_ok o h false), lcn_lt (pst_ok o h true)⟩
theorem lps_lt (hs : ∀ x ∈ st, x < A.length) (hl : st.length = m * m) : ∀ x ∈ lps st m k A.length, x < (lpw A k).length := by
  intro x hx
  obtain ⟨i, hi, rfl⟩ := List.mem_map.mp hx
  rw [lpw_len]
  exact lcn_lt (sq_ok hs hl (List.mem_range.mp hi))
theorem out_lpw (o : TOk A) (h : OkQ A k q) (w : List Bool) : out (lpw A k) (lcn A.length k q) w = pout A k q w := by
  induction w generalizing q with
  | nil => rfl
  | cons b w ih =>
    rw [out_cons (lpw_get h)]
    have := ih (pst_ok o h b)
    cases b with
    | false => exact congrArg _ this
    | true => exact congrArg _ this
theorem Sim.lpw (o : TOk A) (hs : ∀ x ∈ st, x < A.length) (hl : st.length = m * m) : Sim (m * k) (PwM.lpw A k) (lps st m k A.length) (PwM.pw A k) (ps st m k) := by
  refine Sim.mk' lps_len ps_len fun i h w => ?_
  have ok := sq_ok (k := k) hs hl h
  rw [ps_get h, out_pw o ok]
  have e : (lps st m k A.length).getD i 0 = lcn A.length k (sq st m k i) := by
    unfold lps
    rw [List.getD_eq_getElem?_getD, List.getElem?_map, List.getElem?_range h]
    rfl
  rw [e, out_lpw o ok]
end PwM

set_option maxHeartbeats 4000000
/-! rings of alike tables, and of powers -/
namespace RG3
open PwM (cn pst prow dec pw OkQ ps sq)
variable {A B : List Rn}
/-! ### alike tables -/
theorem nx_fl {s : Nat} {b : Bool} : (LF.nx (rw_ A s) b, LF.fl (rw_ A s) b) = if b = true then ((rw_ A s).2.2.1, (rw_ A s).2.2.2) else ((rw_ A s).1, (rw_ A s).2.1) := by
  cases b <;> rfl
theorem one_alk (oA : LF.TOk A) (oB : LF.TOk B) {s s' : Nat × Bool} (h : LF.RR A B s.1 s'.1) (hf : s.2 = s'.2) (x : Bool) : LF.RR A B (one A s x).1 (one B s' x).1 ∧ (one A s x).2 = (one B s' x).2 := by
  obtain ⟨k, r1, r2⟩ := LF.rr_step oA oB h (row_at h.1) (row_at h.2.1)
  have k1 : (rw_ A s.1).2.1 = (rw_ B s'.1).2.1 := congrArg (fun z : Bool × Bool => z.1) k
  have k2 : (rw_ A s.1).2.2.2 = (rw_ B s'.1).2.2.2 := congrArg (fun z : Bool × Bool => z.2) k
  unfold one
  dsimp only
  rw [← hf]
  cases hx : (x != s.2)
  · exact ⟨r1, by show (s.2 != (rw_ A s.1).2.1) = (s.2 != (rw_ B s'.1).2.1); rw [k1]⟩
  · exact ⟨r2, by show (s.2 != (rw_ A s.1).2.2.2) = (s.2 != (rw_ B s'.1).2.2.2); rw [k2]⟩
def AlkN (A B : List Rn) (n n' : Nd) : Prop := (LF.RR A B n.1.1 n'.1.1 ∧ n.1.2 = n'.1.2) ∧ (LF.RR A B n.2.1.1 n'.2.1.1 ∧ n.2.1.2 = n'.2.1.2) ∧ (LF.RR A B n.2.2.1 n'.2.2.1 ∧ n.2.2.2 = n'.2.2.2)
theorem AlkN.ring {n n' : Nd} (h : AlkN A B n n') : ringN n = ringN n' := by
  unfold ringN
  rw [h.1.2, h.2.1.2, h.2.2.2]
theorem AlkN.stp (oA : LF.TOk A) (oB : LF.TOk B) {n n' : Nd} (h : AlkN A B n n') (c : Nat) : AlkN A B (stp A n c) (stp B n' c) := by
  obtain ⟨h1, h2, h3⟩ := h
  match c with
  | 0 => exact ⟨one_alk oA oB h1.1 h1.2 false, one_alk oA oB h2.1 h2.2 false, h3⟩
  | 1 => exact ⟨one_alk oA oB h1.1 h1.2 true, h2, one_alk oA oB h3.1 h3.2 false⟩
  | _ + 2 => exact ⟨h1, one_alk oA oB h2.1 h2.2 true, one_alk oA oB h3.1 h3.2 true⟩
section
variable {st st' : List Nat} {m : Nat} {oA : LF.TOk A} {oB : LF.TOk B} {hm : 0 < m}
theorem nd_alk (h : ∀ i, i < m * m → LF.RR A B (st.getD i 0) (st'.getD i 0)) (p : Nat) : AlkN A B (nd (ringSys A st m oA hm) p) (nd (ringSys B st' m oB hm) p) := by
  induction p using Nat.strongRecOn with
  | _ p ih =>
    by_cases hp : p < m * m * m
    · rw [nd_root (S := ringSys A st m oA hm) hp, nd_root (S := ringSys B st' m oB hm) hp]
      have ha : p / (m * m) < m := Nat.div_lt_of_lt_mul hp
      have hb : p / m % m < m := Nat.mod_lt _ hm
      have hc : p % m < m := Nat.mod_lt _ hm
      exact ⟨⟨h _ (tri_ix ha hb), rfl⟩, ⟨h _ (tri_ix ha hc), rfl⟩, ⟨h _ (tri_ix hb hc), rfl⟩⟩
    · obtain ⟨q, c, hc, rfl, hq⟩ := path_cases (S := ringSys A st m oA hm) hp
      have e : child (ringSys A st m oA hm) q c = child (ringSys B st' m oB hm) q c := rfl
      rw [nd_child hc, e, nd_child hc]
      exact (ih q hq).stp oA oB c
theorem pt_alk (h : ∀ i, i < m * m → LF.RR A B (st.getD i 0) (st'.getD i 0)) (p c : Nat) : Pt (ringSys A st m oA hm) p c ↔ Pt (ringSys B st' m oB hm) p c := by
  have e := ((nd_alk (oA := oA) (oB := oB) (hm := hm) h p).stp oA oB c).ring
  show ringN (stp A (nd (ringSys A st m oA hm) p) c) = true ↔ ringN (stp B (nd (ringSys B st' m oB hm) p) c) = true
  rw [e]
theorem res_alk (h : ∀ i, i < m * m → LF.RR A B (st.getD i 0) (st'.getD i 0)) : ∀ {o : Option (Nat × Nat)}, Res (ringSys A st m oA hm) o → Res (ringSys B st' m oB hm) o
  | none, r => fun p c hc z => r p c hc ((pt_alk h p c).mpr z)
  | some (p, c), r => ⟨r.1, (pt_alk h p c).mp r.2.1, fun q d hd hq z => r.2.2.1 q d hd hq ((pt_alk h q d).mpr z), fun d hd z => r.2.2.2 d hd ((pt_alk h p d).mpr z)⟩
end
/-! ### is there a ring at all -/
def HasR (S : Sys Nd) : Prop := ∃ p c, c < 3 ∧ Pt S p c
theorem res_has {S : Sys Nd} : ∀ {o : Option (Nat × Nat)}, Res S o → (o.isNone = true ↔ ¬ HasR S)
  | none, r => ⟨fun _ h => h.elim fun p h => h.elim fun c h => r p c h.1 h.2, fun _ => rfl⟩
  | some (p, c), r => ⟨fun z => (by cases z), fun z => absurd ⟨p, c, r.1, r.2.1⟩ z⟩
section
variable {st : List Nat} {m : Nat} {ok : LF.TOk A} {hm : 0 < m}
theorem ring_root {p : Nat} (h : p < m * m * m) : ringN (nd (ringSys A st m ok hm) p) = false := by
  rw [nd_root (S := ringSys A st m ok hm) h]
  rfl
theorem ring_has {p : Nat} (h : ringN (nd (ringSys A st m ok hm) p) = true) : HasR (ringSys A st m ok hm) := by
  by_cases hp : p < m * m * m
  · rw [ring_root hp] at h
    cases h
  · obtain ⟨q, c, hc, rfl, hq⟩ := path_cases (S := ringSys A st m ok hm) hp
    rw [nd_child hc] at h
    exact ⟨q, c, hc, h⟩
/-- what holds at the beginnings and behind each call -/
theorem no_ring (I : Nd → Prop) (h0 : ∀ p, p < m * m * m → I (rootN st m p)) (hs : ∀ n c, c < 3 → I n → I (stp A n c)) (hr : ∀ n, I n → ringN n = false) : ¬ HasR (ringSys A st m ok hm) := by
  have key : ∀ p, I (nd (ringSys A st m ok hm) p) := by
    intro p
    induction p using Nat.strongRecOn with
    | _ p ih =>
      by_cases hp : p < m * m * m
      · rw [nd_root (S := ringSys A st m ok hm) hp]
        exact h0 p hp
      · obtain ⟨q, c, hc, rfl, hq⟩ := path_cases (S := ringSys A st m ok hm) hp
        rw [nd_child hc]
        exact hs _ c hc (ih q hq)
  rintro ⟨p, c, hc, z⟩
  have z : ringN (stp A (nd (ringSys A st m ok hm) p) c) = true := z
  rw [hr _ (hs _ c hc (key p))] at z
  cases z
end
/-! ### powers -/
def enc (k : Nat) (s : Nat × Bool) (x y : Nat) : Nat × Bool := (cn k (s.1, if s.2 = true then y else x, if s.2 = true then x else y), s.2)
theorem rw_pw {k : Nat} {q : Nat × Nat × Nat} (h : OkQ A k q) : rw_ (pw A k) (cn k q) = prow A k q := by
  have e : (pw A k)[cn k q]? = some (prow A k q) := by
    unfold pw
    rw [List.getElem?_map, List.getElem?_range (PwM.cn_lt h)]
    show some (prow A k (dec k (cn k q))) = _
    rw [PwM.dec_cn h.2.1 h.2.2]
  unfold rw_
  rw [List.getD_eq_getElem?_getD, e]
  rfl
theorem rw_eq (s : Nat) : LP.rw_ A s = rw_ A s := rfl
/-- a call of the first or the second of a pair: a step of its count, or the rule's own step -/
theorem pw_one {k : Nat} {s : Nat × Bool} {x y : Nat} (hs : s.1 < A.length) (hx : x < k) (hy : y < k) :
    one (pw A k) (enc k s x y) false = (if x + 1 < k then enc k s (x + 1) y else enc k (one A s false) 0 y) ∧ one (pw A k) (enc k s x y) true = (if y + 1 < k then enc k s x (y + 1) else enc k (one A s true) x 0) := by
  obtain ⟨s, t⟩ := s
  have hq : OkQ A k (s, if t = true then y else x, if t = true then x else y) := ⟨hs, by cases t <;> assumption, by cases t <;> assumption⟩
  have er := rw_pw hq
  cases t
  · have er : rw_ (pw A k) (cn k (s, x, y)) = prow A k (s, x, y) := er
    constructor
    · by_cases g : x + 1 < k
      · rw [if_pos g]
        simp [one, enc, er, LF.nx, LF.fl, prow, pst, g]
      · rw [if_neg g]
        cases f : (rw_ A s).2.1 <;> simp [one, enc, er, LF.nx, LF.fl, prow, pst, g, f, rw_eq]
    · by_cases g : y + 1 < k
      · rw [if_pos g]
        simp [one, enc, er, LF.nx, LF.fl, prow, pst, g]
      · rw [if_neg g]
        cases f : (rw_ A s).2.2.2 <;> simp [one, enc, er, LF.nx, LF.fl, prow, pst, g, f, rw_eq]
  · have er : rw_ (pw A k) (cn k (s, y, x)) = prow A k (s, y, x) := er
    constructor
    · by_cases g : x + 1 < k
      · rw [if_pos g]
        simp [one, enc, er, LF.nx, LF.fl, prow, pst, g]
      · rw [if_neg g]
        cases f : (rw_ A s).2.2.2 <;> simp [one, enc, er, LF.nx, LF.fl, prow, pst, g, f, rw_eq]
    · by_cases g : y + 1 < k
      · rw [if_pos g]
        simp [one, enc, er, LF.nx, LF.fl, prow, pst, g]
      · rw [if_neg g]
        cases f : (rw_ A s).2.1 <;> simp [one, enc, er, LF.nx, LF.fl, prow, pst, g, f, rw_eq]
end RG3

set_option maxHeartbeats 4000000
/-! whole lists: the pairs of n cases, their triples, and the one order that they form -/
namespace RG3
abbrev Pg := Nat × Nat → Nat × Bool
def begG (st : List Nat) (m : Nat) (ms : List Nat) : Pg := fun p => (st.getD (ms.getD p.1 0 * m + ms.getD p.2 0) 0, false)
def movG (A : List Rn) (g : Pg) (c : Nat) : Pg := fun p => if c = p.1 then one A (g p) false else if c = p.2 then one A (g p) true else g p
def tri (g : Pg) (l k h : Nat) : Nd := (g (l, k), g (l, h), g (k, h))
theorem tri_mov (A : List Rn) (g : Pg) (c : Nat) {l k h : Nat} (h1 : l < k) (h2 : k < h) :
    tri (movG A g c) l k h = if c = l then stp A (tri g l k h) 0 else if c = k then stp A (tri g l k h) 1 else if c = h then stp A (tri g l k h) 2 else tri g l k h := by
  unfold tri movG
  by_cases e1 : c = l
  · subst e1
    simp [stp, Nat.ne_of_lt h1, Nat.ne_of_lt (Nat.lt_trans h1 h2), Nat.ne_of_lt h2]
  · by_cases e2 : c = k
    · subst e2
      simp [stp, e1, Nat.ne_of_lt h1, Nat.ne_of_lt (Nat.lt_trans h1 h2), Nat.ne_of_lt h2]
    · by_cases e3 : c = h
      · subst e3
        simp [stp, e1, e2, Nat.ne_of_lt h1, Nat.ne_of_lt (Nat.lt_trans h1 h2), Nat.ne_of_lt h2]
      · simp [e1, e2, e3]
/-- y is ahead of x -/
def ahd (g : Pg) (x y : Nat) : Bool := if x < y then (g (x, y)).2 else if y < x then !(g (y, x)).2 else false
theorem ahd_self (g : Pg) (x : Nat) : ahd g x x = false := by
  unfold ahd
  rw [if_neg (Nat.lt_irrefl x), if_neg (Nat.lt_irrefl x)]
theorem ahd_anti (g : Pg) {x y : Nat} (h : x ≠ y) : ahd g x y = !(ahd g y x) := by
  unfold ahd
  rcases Nat.lt_or_gt_of_ne h with l | l
  · rw [if_pos l, if_neg (by omega), if_pos l, Bool.not_not]
  · rw [if_neg (by omega), if_pos l, if_pos l]
def scT (g : Pg) (n x : Nat) : Nat := (List.range n).countP (ahd g x)
/-- no three of the n cases form a ring -/
def NoR (g : Pg) (n : Nat) : Prop := ∀ l k h, l < k → k < h → h < n → ringN (tri g l k h) = false
theorem ringF_iff (a b c : Bool) : ringF a b c = false ↔ ¬ (a = c ∧ a ≠ b) := by
  cases a <;> cases b <;> cases c <;> simp [ringF]
theorem NoR.trans {g : Pg} {n : Nat} (h : NoR g n) {x y z : Nat} (hx : x < n) (hy : y < n) (hz : z < n) (h1 : ahd g x y = true) (h2 : ahd g y z = true) : ahd g x z = true := by
  have n1 : x ≠ y := fun e => by rw [e, ahd_self] at h1; cases h1
  have n2 : y ≠ z := fun e => by rw [e, ahd_self] at h2; cases h2
  have n3 : x ≠ z := fun e => by
    rw [← e, ahd_anti g (Ne.symm n1), h1] at h2
    cases h2
  have ring : ∀ l k hh, l < k → k < hh → hh < n → ¬ ((g (l, k)).2 = (g (k, hh)).2 ∧ (g (l, k)).2 ≠ (g (l, hh)).2) := fun l k hh a b c => (ringF_iff _ _ _).mp (h l k hh a b c)
  unfold ahd at h1 h2 ⊢
  rcases Nat.lt_or_gt_of_ne n1 with a | a <;> rcases Nat.lt_or_gt_of_ne n2 with b | b <;> rcases Nat.lt_or_gt_of_ne n3 with c | c
  · have r := ring x y z a b hz
    rw [if_pos a] at h1
    rw [if_pos b] at h2
    rw [if_pos c]
    cases e : (g (x, z)).2
    · exact absurd ⟨h1.trans h2.symm, by rw [h1, e]; decide⟩ r
    · rfl
  · exfalso; omega
  · have r := ring x z y c b hy
    rw [if_pos a] at h1
    rw [if_neg (by omega), if_pos b] at h2
    rw [if_pos c]
    cases e : (g (x, z)).2
    · refine absurd ⟨?_, by rw [h1, e]; decide⟩ r
      rw [e]
      cases e2 : (g (z, y)).2
      · rfl
      · rw [e2] at h2; cases h2
    · rfl
  · have r := ring z x y c a hy
    rw [if_pos a] at h1
    rw [if_neg (by omega), if_pos b] at h2
    rw [if_neg (by omega), if_pos c]
    cases e : (g (z, x)).2
    · rfl
    · refine absurd ⟨e.trans h1.symm, ?_⟩ r
      rw [e]
      cases e2 : (g (z, y)).2
      · decide
      · rw [e2] at h2; cases h2
  · have r := ring y x z a c hz
    rw [if_neg (by omega), if_pos a] at h1
    rw [if_pos b] at h2
    rw [if_pos c]
    cases e : (g (x, z)).2
    · refine absurd ⟨?_, ?_⟩ r
      · rw [e]
        cases e2 : (g (y, x)).2
        · rfl
        · rw [e2] at h1; cases h1
      · rw [h2]
        cases e2 : (g (y, x)).2
        · decide
        · rw [e2] at h1; cases h1
    · rfl
  · have r := ring y z x b c hx
    rw [if_neg (by omega), if_pos a] at h1
    rw [if_pos b] at h2
    rw [if_neg (by omega), if_pos c]
    cases e : (g (z, x)).2
    · rfl
    · refine absurd ⟨h2.trans e.symm, ?_⟩ r
      rw [h2]
      cases e2 : (g (y, x)).2
      · decide
      · rw [e2] at h1; cases h1
  · exfalso; omega
  · have r := ring z y x b a hx
    rw [if_neg (by omega), if_pos a] at h1
    rw [if_neg (by omega), if_pos b] at h2
    rw [if_neg (by omega), if_pos c]
    have e1 : (g (y, x)).2 = false := by cases q : (g (y, x)).2 <;> simp [q] at h1 ⊢
    have e2 : (g (z, y)).2 = false := by cases q : (g (z, y)).2 <;> simp [q] at h2 ⊢
    cases e : (g (z, x)).2
    · rfl
    · exact absurd ⟨e2.trans e1.symm, by rw [e2, e]; decide⟩ r
theorem countP_lt' {p q : Nat → Bool} : ∀ {l : List Nat} {y : Nat}, (∀ x ∈ l, p x = true → q x = true) → y ∈ l → p y = false → q y = true → l.countP p < l.countP q
  | [], y, _, h, _, _ => (List.not_mem_nil h).elim
  | a :: l, y, hs, h, h1, h2 => by
    have m := List.countP_mono_left (p := p) (q := q) (l := l) fun x hx => hs x (List.mem_cons_of_mem _ hx)
    rw [List.countP_cons, List.countP_cons]
    rcases List.mem_cons.mp h with e | h
    · subst e
      rw [h1, h2]
      simp
      omega
    · have ih := countP_lt' (fun x hx => hs x (List.mem_cons_of_mem _ hx)) h h1 h2
      have := hs a List.mem_cons_self
      cases ep : p a <;> cases eq : q a <;> simp [ep, eq] at this ⊢ <;> omega
theorem NoR.lt {g : Pg} {n : Nat} (h : NoR g n) {x y : Nat} (hx : x < n) (hy : y < n) (h1 : ahd g x y = true) : scT g n y < scT g n x :=
  countP_lt' (fun z hz h2 => h.trans hx hy (List.mem_range.mp hz) h1 h2) (List.mem_range.mpr hy) (ahd_self g y) h1
theorem scT_lt (g : Pg) {n x : Nat} (hx : x < n) : scT g n x < n := by
  have h := countP_lt' (p := ahd g x) (q := fun _ => true) (l := List.range n) (y := x) (fun _ _ _ => rfl) (List.mem_range.mpr hx) (ahd_self g x) rfl
  rw [List.countP_true, List.length_range] at h
  exact h
theorem NoR.inj {g : Pg} {n : Nat} (h : NoR g n) {x y : Nat} (hx : x < n) (hy : y < n) (e : scT g n x = scT g n y) : x = y := by
  refine Decidable.byContradiction fun ne => ?_
  cases q : ahd g x y
  · have q2 : ahd g y x = true := by rw [ahd_anti g (Ne.symm ne), q]; rfl
    have := h.lt hy hx q2
    omega
  · have := h.lt hx hy q
    omega
/-- the scores, sorted -/
theorem sorted_range : ∀ {n : Nat} {l : List Nat}, l.Pairwise (· ≤ ·) → l.Nodup → l.length = n → (∀ x ∈ l, x < n) → l = List.range n := by
  intro n l hs hn hl hb
  have ls : l.Pairwise (· < ·) := by
    refine List.Pairwise.imp₂ (R := (· ≤ ·)) (S := (· ≠ ·)) (fun a b h1 h2 => ?_) hs hn
    omega
  have hp := List.pairwise_iff_getElem.mp ls
  have up : ∀ i (h : i < l.length), i ≤ l[i] := by
    intro i
    induction i with
    | zero => intro _; omega
    | succ i ih =>
      intro h
      have := ih (by omega)
      have := hp i (i + 1) (by omega) h (by omega)
      omega
  have dn : ∀ j i (h : i < l.length), i + j + 1 = l.length → l[i] ≤ i := by
    intro j
    induction j with
    | zero =>
      intro i h e
      have := hb l[i] (List.getElem_mem h)
      omega
    | succ j ih =>
      intro i h e
      have a := ih (i + 1) (by omega) (by omega)
      have := hp i (i + 1) h (by omega) (by omega)
      omega
  refine List.ext_getElem (by rw [hl, List.length_range]) fun i h1 h2 => ?_
  rw [List.getElem_range]
  have a := up i h1
  have b := dn (l.length - 1 - i) i h1 (by omega)
  omega
theorem line_yes {g : Pg} {n : Nat} (h : NoR g n) {l : List Nat} (hp : l.Perm ((List.range n).map (scT g n))) (hs : l.Pairwise (· ≤ ·)) : l = List.range n := by
  refine sorted_range hs (hp.nodup_iff.mpr ?_) (by rw [hp.length_eq, List.length_map, List.length_range]) fun x hx => ?_
  · refine (List.pairwise_map).mpr ?_
    refine List.Pairwise.imp_of_mem (fun {a b} ha hb hab => ?_) (List.nodup_range (n := n))
    exact fun e => hab (h.inj (List.mem_range.mp ha) (List.mem_range.mp hb) e)
  · obtain ⟨y, hy, rfl⟩ := List.mem_map.mp (hp.mem_iff.mp hx)
    exact scT_lt g (List.mem_range.mp hy)
theorem countP_same {p q : Nat → Bool} : ∀ {l : List Nat}, (∀ x ∈ l, p x = true → q x = true) → l.countP p = l.countP q → ∀ x ∈ l, p x = q x := by
  intro l hs he x hx
  cases e1 : p x <;> cases e2 : q x
  · rfl
  · have := countP_lt' hs hx e1 e2
    omega
  · have := hs x hx e1
    rw [e2] at this
    cases this
  · rfl
theorem count_below (n k : Nat) (h : k ≤ n) : (List.range n).countP (fun x => decide (x < k)) = k := by
  induction n generalizing k with
  | zero =>
    obtain rfl : k = 0 := by omega
    rfl
  | succ n ih =>
    rw [List.range_succ, List.countP_append]
    rcases Nat.lt_or_ge n k with l | l
    · obtain rfl : k = n + 1 := by omega
      have e : (List.range n).countP (fun x => decide (x < n + 1)) = (List.range n).countP (fun x => decide (x < n)) := List.countP_congr fun x hx => by
        have := List.mem_range.mp hx
        simp [this]
        omega
      rw [e, ih n (Nat.le_refl _)]
      simp
    · rw [ih k l]
      simp
      omega
/-- where the scores are 0 to n - 1, the ahead ones are those of lower score -/
theorem line_tr {g : Pg} {n : Nat} (hp : (List.range n).Perm ((List.range n).map (scT g n))) : ∀ s x, scT g n x = s → x < n → ∀ y, y < n → ahd g x y = decide (scT g n y < s) := by
  intro s
  induction s using Nat.strongRecOn with
  | _ s ih =>
    intro x hs hx
    have sub : ∀ y ∈ List.range n, decide (scT g n y < s) = true → ahd g x y = true := fun y hy h => by
      have hy := List.mem_range.mp hy
      have h := of_decide_eq_true h
      have e := ih (scT g n y) h y rfl hy x hx
      have ne : x ≠ y := fun e => by subst e; omega
      rw [ahd_anti g ne, e, hs]
      simp
      omega
    have cnt : (List.range n).countP (fun y => decide (scT g n y < s)) = s := by
      have e1 := hp.countP_eq (fun z => decide (z < s))
      rw [List.countP_map] at e1
      have sl : s < n := hs ▸ scT_lt g hx
      rw [count_below n s (by omega)] at e1
      exact e1.symm
    have all := countP_same sub (cnt.trans hs.symm)
    exact fun y hy => (all y (List.mem_range.mpr hy)).symm
theorem line_no {g : Pg} {n l k h : Nat} (h1 : l < k) (h2 : k < h) (h3 : h < n) (r : ringN (tri g l k h) = true) : ¬ (List.range n).Perm ((List.range n).map (scT g n)) := fun hp => by
  have T := fun x y (hx : x < n) (hy : y < n) => line_tr hp _ x rfl hx y hy
  have a := T l k (by omega) (by omega)
  have b := T k h (by omega) (by omega)
  have c := T l h (by omega) (by omega)
  unfold ahd at a b c
  rw [if_pos h1] at a
  rw [if_pos h2] at b
  rw [if_pos (by omega)] at c
  have r : ringF (g (l, k)).2 (g (l, h)).2 (g (k, h)).2 = true := r
  rw [a, b, c] at r
  by_cases q1 : scT g n k < scT g n l
  · by_cases q2 : scT g n h < scT g n k
    · have q3 : scT g n h < scT g n l := by omega
      simp [ringF, q1, q2, q3] at r
    · simp [ringF, q1, q2] at r
  · by_cases q2 : scT g n h < scT g n k
    · simp [ringF, q1, q2] at r
    · have a2 := T k l (by omega) (by omega)
      have b2 := T h k (by omega) (by omega)
      rw [ahd_anti g (by omega), ahd, if_pos h1, a] at a2
      rw [ahd_anti g (by omega), ahd, if_pos h2, b] at b2
      have q4 : scT g n l < scT g n k := by simp [q1] at a2; omega
      have q5 : scT g n k < scT g n h := by simp [q2] at b2; omega
      have q3 : ¬ scT g n h < scT g n l := by omega
      simp [ringF, q1, q2, q3] at r
end RG3

set_option maxHeartbeats 4000000
/-! whole lists: the pairs in their order, their scores, and the paths of their triples -/
namespace RG3
def prs (n : Nat) : List (Nat × Nat) := (List.range n).flatMap fun l => (List.range (n - l - 1)).map fun j => (l, l + 1 + j)
theorem mem_prs {n : Nat} {p : Nat × Nat} : p ∈ prs n ↔ p.1 < p.2 ∧ p.2 < n := by
  unfold prs
  rw [List.mem_flatMap]
  constructor
  · rintro ⟨l, hl, h⟩
    obtain ⟨j, hj, rfl⟩ := List.mem_map.mp h
    have := List.mem_range.mp hl
    have := List.mem_range.mp hj
    exact ⟨by show l < l + 1 + j; omega, by show l + 1 + j < n; omega⟩
  · rintro ⟨h1, h2⟩
    refine ⟨p.1, List.mem_range.mpr (by omega), List.mem_map.mpr ⟨p.2 - p.1 - 1, List.mem_range.mpr (by omega), ?_⟩⟩
    exact Prod.ext rfl (by show p.1 + 1 + (p.2 - p.1 - 1) = p.2; omega)
theorem prs_nodup (n : Nat) : (prs n).Nodup := by
  unfold prs
  refine List.pairwise_flatMap.mpr ⟨fun l hl => nodup_map List.nodup_range fun a _ b _ e => ?_, ?_⟩
  · have := congrArg Prod.snd e
    have : l + 1 + a = l + 1 + b := this
    omega
  · refine List.Pairwise.imp (fun {a b} hab => ?_) (List.nodup_range (n := n))
    intro x h1 y h2 e
    obtain ⟨i, _, rfl⟩ := List.mem_map.mp h1
    obtain ⟨j, _, rfl⟩ := List.mem_map.mp h2
    exact hab (congrArg Prod.fst e)
theorem prs_few {n : Nat} (h : n ≤ 9) : (prs n).length ≤ 36 := by
  have : n = 0 ∨ n = 1 ∨ n = 2 ∨ n = 3 ∨ n = 4 ∨ n = 5 ∨ n = 6 ∨ n = 7 ∨ n = 8 ∨ n = 9 := by omega
  rcases this with rfl | rfl | rfl | rfl | rfl | rfl | rfl | rfl | rfl | rfl <;> decide
/-- the case of a pair that has one more ahead -/
def bhd (g : Pg) (p : Nat × Nat) : Nat := if (g p).2 = true then p.1 else p.2
def scP (g : Pg) (L : List (Nat × Nat)) (x : Nat) : Nat := L.countP fun p => decide (bhd g p = x)
theorem scP_snoc (g : Pg) (L : List (Nat × Nat)) (p : Nat × Nat) (x : Nat) : scP g (L ++ [p]) x = if bhd g p = x then scP g L x + 1 else scP g L x := by
  unfold scP
  rw [List.countP_append]
  by_cases e : bhd g p = x <;> simp [e]
def oth (x : Nat) (p : Nat × Nat) : Nat := if p.1 = x then p.2 else p.1
theorem scP_all (g : Pg) {n x : Nat} (hx : x < n) : scP g (prs n) x = scT g n x := by
  have e0 : scP g (prs n) x = ((prs n).filter fun p => decide (p.1 = x ∨ p.2 = x)).countP fun p => decide (bhd g p = x) := by
    rw [List.countP_filter]
    refine List.countP_congr fun p hp => ?_
    unfold bhd
    cases (g p).2 <;> simp <;> intro h <;> simp [h]
  have e1 : ((prs n).filter fun p => decide (p.1 = x ∨ p.2 = x)).countP (fun p => decide (bhd g p = x)) = (((prs n).filter fun p => decide (p.1 = x ∨ p.2 = x)).map (oth x)).countP (ahd g x) := by
    rw [List.countP_map]
    refine List.countP_congr fun p hp => ?_
    obtain ⟨h1, h2⟩ := List.mem_filter.mp hp
    obtain ⟨h3, h4⟩ := mem_prs.mp h1
    obtain ⟨a, b⟩ := p
    have h3 : a < b := h3
    rcases of_decide_eq_true h2 with h | h
    · obtain rfl : a = x := h
      show decide (bhd g (a, b) = a) = true ↔ ahd g a (oth a (a, b)) = true
      unfold oth ahd bhd
      rw [if_pos rfl, if_pos h3]
      cases (g (a, b)).2
      · simp
        omega
      · simp
    · obtain rfl : b = x := h
      have e3 : oth b (a, b) = a := if_neg (by show ¬ a = b; omega)
      have e4 : ahd g b a = !(g (a, b)).2 := by
        unfold ahd
        rw [if_neg (by omega : ¬ b < a), if_pos h3]
      show decide (bhd g (a, b) = b) = true ↔ ahd g b (oth b (a, b)) = true
      rw [e3, e4]
      unfold bhd
      cases (g (a, b)).2
      · simp
      · simp
        omega
  have e2 : (((prs n).filter fun p => decide (p.1 = x ∨ p.2 = x)).map (oth x)).Perm ((List.range n).filter fun y => decide (y ≠ x)) := by
    refine (List.perm_ext_iff_of_nodup (nodup_map ((prs_nodup n).filter _) fun p hp q hq e => ?_) (List.nodup_range.filter _)).mpr fun y => ?_
    · obtain ⟨h1, h2⟩ := List.mem_filter.mp hp
      obtain ⟨h3, h4⟩ := mem_prs.mp h1
      obtain ⟨k1, k2⟩ := List.mem_filter.mp hq
      obtain ⟨k3, k4⟩ := mem_prs.mp k1
      have h2 := of_decide_eq_true h2
      have k2 := of_decide_eq_true k2
      obtain ⟨a, b⟩ := p
      obtain ⟨c, d⟩ := q
      dsimp only at h2 h3 k2 k3
      unfold oth at e
      dsimp only at e
      refine Prod.ext ?_ ?_ <;> dsimp only <;> split at e <;> split at e <;> omega
    · rw [List.mem_map, List.mem_filter, List.mem_range]
      constructor
      · rintro ⟨p, hp, rfl⟩
        obtain ⟨h1, h2⟩ := List.mem_filter.mp hp
        obtain ⟨h3, h4⟩ := mem_prs.mp h1
        have h2 := of_decide_eq_true h2
        unfold oth
        split
        · exact ⟨h4, decide_eq_true (by omega)⟩
        · exact ⟨by omega, decide_eq_true (by omega)⟩
      · rintro ⟨h1, h2⟩
        have h2 := of_decide_eq_true h2
        rcases Nat.lt_or_gt_of_ne h2 with l | l
        · refine ⟨(y, x), List.mem_filter.mpr ⟨mem_prs.mpr ⟨l, hx⟩, decide_eq_true (.inr rfl)⟩, ?_⟩
          unfold oth
          exact if_neg h2
        · refine ⟨(x, y), List.mem_filter.mpr ⟨mem_prs.mpr ⟨l, h1⟩, decide_eq_true (.inl rfl)⟩, ?_⟩
          unfold oth
          exact if_pos rfl
  rw [e0, e1, e2.countP_eq, List.countP_filter]
  refine List.countP_congr fun y _ => ?_
  by_cases h : y = x
  · subst h
    rw [ahd_self]
    simp
  · simp [h]
/-- a node is its calls from its beginning -/
theorem nd_calls {N : Type} (S : Sys N) (p : Nat) : nd S p = (calls S p).foldl S.stp (S.rt (root S p)) := by
  induction p using Nat.strongRecOn with
  | _ p ih =>
    by_cases hp : p < S.M
    · rw [nd_root hp, calls_root hp, root_root hp]
      rfl
    · obtain ⟨q, c, hc, rfl, hq⟩ := path_cases hp
      rw [nd_child hc, calls_child hc, root_child hc, List.foldl_append, ih q hq]
      rfl
section
variable {A : List Rn} {st : List Nat} {m : Nat} {ok : LF.TOk A} {hm : 0 < m}
def Rch (S : Sys Nd) (g : Pg) (n : Nat) : Prop := ∀ l k h, l < k → k < h → h < n → ∃ p, nd S p = tri g l k h
theorem Rch.beg {ms : List Nat} (hb : ∀ i, i < ms.length → ms.getD i 0 < m) : Rch (ringSys A st m ok hm) (begG st m ms) ms.length := by
  intro l k h h1 h2 h3
  have a := hb l (by omega)
  have b := hb k (by omega)
  have c := hb h h3
  generalize ea : ms.getD l 0 = x at a
  generalize eb : ms.getD k 0 = y at b
  generalize ec : ms.getD h 0 = z at c
  have p1 : (x * m + y) * m + z < m * m * m := by
    have : x * m + y < m * m := tri_ix a b
    calc (x * m + y) * m + z < (x * m + y) * m + m := Nat.add_lt_add_left c _
      _ = (x * m + y + 1) * m := (Nat.succ_mul _ _).symm
      _ ≤ m * m * m := Nat.mul_le_mul_right m this
  refine ⟨(x * m + y) * m + z, ?_⟩
  rw [nd_root (S := ringSys A st m ok hm) p1]
  show rootN st m ((x * m + y) * m + z) = tri (begG st m ms) l k h
  have d1 : ((x * m + y) * m + z) / m = x * m + y := by
    rw [Nat.mul_comm _ m, Nat.mul_add_div (by omega), Nat.div_eq_of_lt c, Nat.add_zero]
  have d2 : ((x * m + y) * m + z) % m = z := by
    rw [Nat.mul_comm _ m, Nat.mul_add_mod, Nat.mod_eq_of_lt c]
  have d3 : (x * m + y) % m = y := by
    rw [Nat.mul_comm _ m, Nat.mul_add_mod, Nat.mod_eq_of_lt b]
  have d4 : ((x * m + y) * m + z) / (m * m) = x := by
    rw [← Nat.div_div_eq_div_mul, d1, Nat.mul_comm _ m, Nat.mul_add_div (by omega), Nat.div_eq_of_lt b, Nat.add_zero]
  unfold rootN tri begG
  rw [d4, d1, d2, d3]
  dsimp only
  rw [ea, eb, ec]
theorem Rch.mov {g : Pg} {n : Nat} (r : Rch (ringSys A st m ok hm) g n) (c : Nat) : Rch (ringSys A st m ok hm) (movG A g c) n := by
  intro l k h h1 h2 h3
  obtain ⟨p, hp⟩ := r l k h h1 h2 h3
  rw [tri_mov A g c h1 h2, ← hp]
  by_cases e1 : c = l
  · rw [if_pos e1]
    exact ⟨_, nd_child (S := ringSys A st m ok hm) (p := p) (c := 0) (by decide)⟩
  · rw [if_neg e1]
    by_cases e2 : c = k
    · rw [if_pos e2]
      exact ⟨_, nd_child (S := ringSys A st m ok hm) (p := p) (c := 1) (by decide)⟩
    · rw [if_neg e2]
      by_cases e3 : c = h
      · rw [if_pos e3]
        exact ⟨_, nd_child (S := ringSys A st m ok hm) (p := p) (c := 2) (by decide)⟩
      · rw [if_neg e3]
        exact ⟨p, rfl⟩
theorem Rch.nor {g : Pg} {n : Nat} (r : Rch (ringSys A st m ok hm) g n) (h : Res (ringSys A st m ok hm) none) : NoR g n := by
  intro l k hh h1 h2 h3
  obtain ⟨p, hp⟩ := r l k hh h1 h2 h3
  rw [← hp]
  cases e : ringN (nd (ringSys A st m ok hm) p)
  · rfl
  · obtain ⟨q, c, hc, z⟩ := ring_has e
    exact absurd z (h q c hc)
/-- the triple at three places, led on by the calls of its cases -/
theorem tri_at (A : List Rn) (g : Pg) {l k h : Nat} (h1 : l < k) (h2 : k < h) {c : Nat} (hc : c < 3) : tri (movG A g ([l, k, h].getD c 0)) l k h = stp A (tri g l k h) c := by
  rw [tri_mov A g _ h1 h2]
  have : c = 0 ∨ c = 1 ∨ c = 2 := by omega
  rcases this with rfl | rfl | rfl
  · exact if_pos rfl
  · show (if k = l then _ else if k = k then _ else _) = _
    rw [if_neg (by omega), if_pos rfl]
  · show (if h = l then _ else if h = k then _ else if h = h then _ else _) = _
    rw [if_neg (by omega), if_neg (by omega), if_pos rfl]
theorem tri_out (A : List Rn) (g : Pg) {l k h : Nat} (h1 : l < k) (h2 : k < h) {c : Nat} (a : c ≠ l) (b : c ≠ k) (d : c ≠ h) : tri (movG A g c) l k h = tri g l k h := by
  rw [tri_mov A g _ h1 h2, if_neg a, if_neg b, if_neg d]
/-- behind all calls of the found ring the three form one -/
theorem ring_end {e c : Nat} (h : Res (ringSys A st m ok hm) (some (e, c))) : ringN ((calls (ringSys A st m ok hm) e ++ [c]).foldl (stp A) (rootN st m (root (ringSys A st m ok hm) e))) = true := by
  rw [List.foldl_append]
  have := nd_calls (ringSys A st m ok hm) e
  have this : nd (ringSys A st m ok hm) e = (calls (ringSys A st m ok hm) e).foldl (stp A) (rootN st m (root (ringSys A st m ok hm) e)) := this
  rw [← this]
  exact h.2.1
/-- the triple's beginning, by the marks of its cases -/
theorem tri_beg {ms : List Nat} {r l k h : Nat} (h1 : ms.getD l 0 = r / (m * m)) (h2 : ms.getD k 0 = r / m % m) (h3 : ms.getD h 0 = r % m) : tri (begG st m ms) l k h = rootN st m r := by
  unfold tri begG rootN
  dsimp only
  rw [h1, h2, h3]
theorem ring_flags {g : Pg} {l k h : Nat} (r : ringN (tri g l k h) = true) : ((g (l, k)).2 = false ∧ (g (l, h)).2 = true ∧ (g (k, h)).2 = false) ∨ ((g (l, k)).2 = true ∧ (g (l, h)).2 = false ∧ (g (k, h)).2 = true) := by
  have r : ringF (g (l, k)).2 (g (l, h)).2 (g (k, h)).2 = true := r
  revert r
  cases (g (l, k)).2 <;> cases (g (l, h)).2 <;> cases (g (k, h)).2 <;> simp [ringF]
end
theorem beg_lt {A : List Rn} {st : List Nat} {m : Nat} (hs : ∀ s ∈ st, s < A.length) (h0 : 0 < A.length) (ms : List Nat) (p : Nat × Nat) : (begG st m ms p).1 < A.length := by
  unfold begG
  dsimp only
  rw [List.getD_eq_getElem?_getD]
  cases e : st[ms.getD p.1 0 * m + ms.getD p.2 0]? with
  | none => exact h0
  | some s => exact hs s (List.mem_of_getElem? e)
theorem mov_lt {A : List Rn} (ok : LF.TOk A) {g : Pg} (h : ∀ p, (g p).1 < A.length) (c : Nat) (p : Nat × Nat) : (movG A g c p).1 < A.length := by
  unfold movG
  split
  · exact one_lt ok (h p) _
  · split
    · exact one_lt ok (h p) _
    · exact h p
end RG3

set_option maxHeartbeats 8000000
namespace PA
open PySem L2 RZ
open C8 (pss_cut tCut)
open RG3 (Pg prs movG begG mem_prs one rw_)
abbrev sMovP : Stmt := top 60
def pk2 (p : Nat × Nat) : List L2.Key := [.inl (p.1 : Int), .inl (p.2 : Int)]
theorem pk2_inj {p q : Nat × Nat} (h : pk2 p = pk2 q) : p = q := by
  obtain ⟨a, b⟩ := p
  obtain ⟨c, d⟩ := q
  simp [pk2] at h
  obtain ⟨h1, h2⟩ := h
  have h1 : a = c := by omega
  have h2 : b = d := by omega
  subst h1
  subst h2
  rfl
theorem pk2_kV (p : Nat × Nat) : (pk2 p).map kV = prV p := rfl
abbrev isS : Hp → Addr → Nat × Bool → Prop := TupOf fun s => [V.int (s.1 : Int), .bl s.2]
def pdL (L : List (Nat × Nat)) (T : Nat × Nat → Addr) : List (List L2.Key × V) := L.map fun p => (pk2 p, V.ref (T p))
theorem pd_val {L : List (Nat × Nat)} {T : Nat × Nat → Addr} {p : Nat × Nat} (h : p ∈ L) : valV (pdL L T) (pk2 p) = some (.ref (T p)) := by
  induction L with
  | nil => exact (List.not_mem_nil h).elim
  | cons q L ih =>
    show valV ((pk2 q, V.ref (T q)) :: pdL L T) (pk2 p) = _
    by_cases e : pk2 q = pk2 p
    · rw [valV_pos e, pk2_inj e]
    · rw [valV_neg e]
      rcases List.mem_cons.mp h with z | h
      · exact absurd (by rw [z]) e
      · exact ih h
theorem pd_none {L : List (Nat × Nat)} {T : Nat × Nat → Addr} {p : Nat × Nat} (h : p ∉ L) : valV (pdL L T) (pk2 p) = none := by
  induction L with
  | nil => rfl
  | cons q L ih =>
    show valV ((pk2 q, V.ref (T q)) :: pdL L T) (pk2 p) = _
    have e : ¬ pk2 q = pk2 p := fun z => h (by rw [pk2_inj z]; exact List.mem_cons_self)
    rw [valV_neg e]
    exact ih fun z => h (List.mem_cons_of_mem _ z)
theorem pd_at {L : List (Nat × Nat)} {T : Nat × Nat → Addr} {i : Nat} {k : List L2.Key} {v : V} (h : (pdL L T)[i]? = some (k, v)) : ∃ p, L[i]? = some p ∧ k = pk2 p ∧ v = .ref (T p) := by
  unfold pdL at h
  rw [List.getElem?_map] at h
  obtain ⟨p, h1, h2⟩ := Option.map_eq_some_iff.mp h
  injection h2 with e1 e2
  exact ⟨p, h1, e1.symm, e2.symm⟩
/-- the dict of the pairs -/
def PD (H : Hp) (d : Addr) (n : Nat) (g : Pg) : Prop := ∃ T : Nat × Nat → Addr, H d = some (.dT (pdL (prs n) T)) ∧ ∀ p ∈ prs n, isS H (T p) (g p)
theorem PD.same {H H' : Hp} {d : Addr} {n : Nat} {g : Pg} (h : PD H d n g) (s : Same H H') : PD H' d n g := by
  obtain ⟨T, h1, h2⟩ := h
  exact ⟨T, s _ _ h1, fun p hp => s _ _ (h2 p hp)⟩
def spMovP (K : PySem.W.Frag) (C : Addr) : Sp := fun vs H Q _ => ∃ (r d : Addr) (c : Nat) (A : List Rn) (st : List Nat) (m : Int) (n : Nat) (g : Pg), vs = [.ref r, .ref d, .int (c : Int)] ∧ RuleZ K C H r A st m ∧ (∀ p, (g p).1 < A.length) ∧ n ≤ 9 ∧ PD H d n g ∧
  ∀ d' H', Same H H' → H d' = none → PD H' d' n (movG A g c) → Q (.ref d') H'
theorem ite_is {b : Bool} {P Q : Prop} (hb : b = true) (h : P) : if b = true then P else Q := by rw [if_pos hb]; exact h
theorem ite_no {b : Bool} {P Q : Prop} (hb : b = false) (h : Q) : if b = true then P else Q := by rw [hb]; exact h
theorem decBl (a b : Bool) : decide (V.bl a = V.bl b) = (a == b) := by cases a <;> cases b <;> decide
theorem decIn (a b : Nat) : decide (V.int (a : Int) = V.int (b : Int)) = decide (a = b) := by
  rw [dec_int]
  by_cases h : a = b
  · subst h; simp
  · simp [h]
    omega
theorem inV_pr (c : Nat) (p : Nat × Nat) : inV (V.int (c : Int)) (prV p) = decide (c = p.1 ∨ c = p.2) := by
  show ((((p.1 : Nat) : Int) == (c : Int)) || ((((p.2 : Nat) : Int) == (c : Int)) || false)) = _
  by_cases h1 : c = p.1
  · subst h1; simp
  · by_cases h2 : c = p.2
    · subst h2; simp
    · simp [h1, h2]
      omega
theorem mv_one (A : List Rn) (s : Nat) (b : Bool) : mv (rz (rw_ A s)) b = [.int ((LF.nx (rw_ A s) b : Nat) : Int), .bl (LF.fl (rw_ A s) b)] := by
  cases b <;> rfl
theorem mov_1 {A : List Rn} {g : Pg} {c : Nat} {p : Nat × Nat} (l : p.1 < p.2) (h : c = p.1 ∨ c = p.2) :
    movG A g c p = (LF.nx (rw_ A (g p).1) (!(decide (c = p.2) == (g p).2)), !((g p).2 == LF.fl (rw_ A (g p).1) (!(decide (c = p.2) == (g p).2)))) := by
  unfold movG one
  rcases h with h | h
  · rw [if_pos h, decide_eq_false (by omega)]
    rfl
  · rw [if_neg (by omega), if_pos h, decide_eq_true h]
    rfl
section
variable {P : Program} {w : World} {K : PySem.W.Frag} {mg : Str → Option Value} {base : Heap} {C : Addr}
abbrev NMovP : List Str := ["_law_rule", "_law_pairs", "_law_case", "_law_found", "_law_pair", "_law_state", "_law_turned", "_law_change"]
theorem scMovP : FnScope NMovP ["_law_rule", "_law_pairs", "_law_case"] (defScope sMovP) := ⟨rfl, rfl, rfl, by decide +kernel, rfl, by decide +kernel, by decide +kernel⟩
theorem ok_movP {f g : Addr} {fd gd : FuncData} (F : Fun K "_law_moved" "_law_moved" sMovP f fd) (T : Txt K mg C) (FS : Fun K "step" "Rule.step" sStep g gd) (mS : Meth K C "step" g) (bS : Binds K gd ["self", "state", "behind"] []) : FnOk P w K mg base CX0 2 f fd ["_law_rule", "_law_pairs", "_law_case"] (spMovP K C) := by
  have GS : FnOk P w K mg base CX0 1 g gd ["self", "state", "behind"] (spStep K C) := ok_step FS T
  refine F.ok scMovP (fun vs H Q E h => ?_) (fun cdv A0 outer s H vs Q E hr h => ?_)
  · obtain ⟨_, _, _, _, _, _, _, _, rfl, _⟩ := h
    rfl
  · obtain ⟨r, d, c, A, st, m, n, g0, rfl, R0, hb, hn, ⟨Tt, hd, hT⟩, kk⟩ := h
    have hu := u1 hr.units
    have hr1 : Room 1 _ := hr.mono (by decide)
    refine ⟨_, pss_cons (ps_set (i := 3) scMovP.nd rfl (Or.inl rfl) pe_dnewT)
      (pss_cons (ps_lock (ps_for PassesOwn.never rfl (pi_keys (pv 1)) (pg_name (i := 4) scMovP.nd rfl (Or.inl rfl))
        (pss_cons (ps_asg (pe_dget hu (pv 1) (pv 4) (fun _ _ => rfl)) (pg_tup rfl (pgs_cons (pg_name (i := 5) scMovP.nd rfl (Or.inl rfl)) (pgs_cons (pg_name (i := 6) scMovP.nd rfl (Or.inl rfl)) pgs_nil))))
        (pss_cut (ps_if (pt_cmpR op_in_seq (pv 2) (pv 4) rfl)
          (pss_cons (ps_asg (pe_meth (pv 0) T.cl mS GS hr1 bS .nil pass0 (pa_cons (pv 5) (pa_cons (pe_cmpR op_ne (pe_cmpR op_eq (pv 2) (pe_ix ix_tup (pv 4) pe_int (fun _ _ => rfl)) (nomark _)) (pv 6) (nomark _)) pa_nil))) (pg_tup rfl (pgs_cons (pg_name (i := 5) scMovP.nd rfl (Or.inl rfl)) (pgs_cons (pg_name (i := 7) scMovP.nd rfl (Or.inl rfl)) pgs_nil))))
          (pss_one (ps_set (i := 6) scMovP.nd rfl (Or.inl rfl) (pe_cmpR op_ne (pv 6) (pv 7) (nomark _))))) pss_nil)
        (pss_one (ps_asg (pe_tup (pa_cons (pv 5) (pa_cons (pv 6) pa_nil))) (pg_sub (pv 3) (pv 4) (set_dict hu))))))))
      (pss_one (ps_ret (pv 3)))), ?_⟩
    intro F hF
    have eF := Same.new (o := .dT []) hF
    have Fd : F ≠ d := fun z => by rw [z, hd] at hF; cases hF
    have hdF := eF _ _ hd
    have gF : (upd H F (.dT [])) F = some (.dT []) := upd_same
    have hTF : ∀ p ∈ prs n, isS (upd H F (.dT [])) (Tt p) (g0 p) := fun p hp => eF _ _ (hT p hp)
    have RF := R0.same eF
    have fr : ∀ b, b ≠ F → (upd H F (.dT [])) b = H b := fun b hb => upd_ne hb
    have bk : ∀ H' u, (∀ b o, b ≠ F → b ≠ d → (upd H F (.dT [])) b = some o → H' b = some o) → u = .dT (pdL (prs n) Tt) → Same H (upd H' d u) := fun H' u k hu b o e => by
      by_cases e1 : b = d
      · subst e1
        rw [upd_same, hu, ← hd, e]
      · rw [upd_ne e1]
        exact k b o (ne_of_none e hF) e1 (eF _ _ e)
    generalize (upd H F (.dT [])) = H0 at eF gF hdF hTF RF fr bk ⊢
    refine ⟨d, .dT (pdL (prs n) Tt), hdF, trivial, fun od => ?_⟩
    have unF : ∀ b o, b ≠ d → H0 b = some o → (upd H0 d (.frz od (.dT (pdL (prs n) Tt)))) b = some o := fun b o n e => by rw [upd_ne n]; exact e
    have gd : (upd H0 d (.frz od (.dT (pdL (prs n) Tt)))) d = some (.frz od (.dT (pdL (prs n) Tt))) := upd_same
    generalize (upd H0 d (.frz od (.dT (pdL (prs n) Tt)))) = HF at unF gd ⊢
    refine ⟨_, rfl, d, od, rfl, .inr ⟨_, gd, ?_⟩⟩
    refine for_it walk_keysT (fun i σ' H' => ∃ (x4 x5 x6 x7 : Option V) (T' : Nat × Nat → Addr), σ' = [some (.ref r), some (.ref d), some (.int (c : Int)), some (.ref F), x4, x5, x6, x7] ∧ (∀ b o, b ≠ F → HF b = some o → H' b = some o) ∧ H' F = some (.dT (pdL ((prs n).take i) T')) ∧ ∀ p ∈ (prs n).take i, isS H' (T' p) (movG A g0 c p)) ?_ ?_ ?_ ?_
    · exact ⟨_, _, _, _, fun _ => 0, rfl, fun _ _ _ e => e, unF _ _ Fd gF, fun p hp => (List.not_mem_nil hp).elim⟩
    · rintro i _ H' _ ⟨x4, x5, x6, x7, T', rfl, kp, _⟩
      exact kp _ _ (Ne.symm Fd) gd
    · rintro i x _ H1 H' hi ⟨x4, x5, x6, x7, T', rfl, kp, hF', hT'⟩ ⟨rfl, k, v, q, hk, rfl, hq⟩
      obtain ⟨p, hp, rfl, rfl⟩ := pd_at hk
      have pm : p ∈ prs n := List.mem_of_getElem? hp
      have lp := (mem_prs.mp pm).1
      have sF : ∀ b xs, H0 b = some (.tup xs) → H' b = some (.tup xs) := fun b xs e => by
        refine kp _ _ (fun z => ?_) (unF _ _ (fun z => ?_) e)
        · rw [z, gF] at e; cases e
        · rw [z, hdF] at e; cases e
      have hTp : isS H' (Tt p) (g0 p) := sF _ _ (hTF p pm)
      obtain ⟨dx, RR, SS, refs, hpo, hRR, hEE, hSS⟩ := id RF
      have ko : ∀ b o, (∀ kvs, o ≠ .dT kvs) → H0 b = some o → H' b = some o := fun b o nd e => by
        refine kp _ _ (fun z => ?_) (unF _ _ (fun z => ?_) e)
        · rw [z, gF] at e; exact nd _ (Option.some.inj e).symm
        · rw [z, hdF] at e; exact nd _ (Option.some.inj e).symm
      have R' : RuleZ K C H' r A st m := by
        refine ⟨dx, RR, SS, refs, ko _ _ (by intro _ z; cases z) hpo, ko _ _ (by intro _ z; cases z) hRR, hEE.imp (fun c r q => ko _ _ (by intro _ z; cases z) q), ?_⟩
        exact hSS.elim (fun h => .inl (h.elim (fun h => .inl (ko _ _ (by intro _ z; cases z) h)) fun ⟨o, h⟩ => .inr ⟨o, ko _ _ (by intro _ z; cases z) h⟩)) fun h => .inr h
      refine ⟨_, rfl, _, rfl, d, .ref (Tt p), rfl, .inr ⟨_, pk2 p, q, .inr ⟨od, kp _ _ (Ne.symm Fd) gd⟩, rfl, hq, (pd_val pm).symm⟩, ?_⟩
      refine ⟨Tt p, _, rfl, SqT.of hTp, rfl, _, _, rfl, _, _, rfl, rfl, ?_⟩
      refine ⟨fun σ' H2 => ∃ x7, σ' = [some (.ref r), some (.ref d), some (.int (c : Int)), some (.ref F), some (.ref q), some (.int ((movG A g0 c p).1 : Int)), some (.bl (movG A g0 c p).2), x7] ∧ Same H' H2, ?_, ?_⟩
      · have key := inV_pr c p
        refine ⟨_, rfl, _, rfl, q, _, rfl, .inr (SqT.of hq), rfl, rfl, _, rfl, ?_⟩
        by_cases hc : c = p.1 ∨ c = p.2
        · refine ite_is (key.trans (decide_eq_true hc)) ?_
          have hpo' : H' r = some (.ins C dx (rf RR SS m)) := ko _ _ (by intro _ z; cases z) hpo
          refine ⟨_, rfl, r, dx, _, rfl, hpo', rf_no _ _ _ (by decide +kernel) (by decide +kernel) (by decide +kernel), _, rfl, _, rfl, _, rfl, q, _, 1, _, rfl, rfl, SqT.of hq, rfl, rfl, _, rfl, rfl, r, A.map rz, stZ st, m, (g0 p).1, !(decide (c = p.2) == (g0 p).2), rz (rw_ A (g0 p).1), by show [V.ref r, V.int _, V.bl (!decide (V.bl (decide (V.int (c : Int) = V.int (p.2 : Int))) = V.bl (g0 p).2))] = _; rw [decBl, decIn], R', by rw [List.getElem?_map, RG3.row_at (hb p)]; rfl, fun t H2 s2 ht => ?_⟩
          rw [mv_one] at ht
          refine ⟨t, _, rfl, SqT.of ht, rfl, _, _, rfl, _, _, rfl, rfl, ?_⟩
          refine ⟨_, rfl, _, rfl, rfl, some (.bl (LF.fl (rw_ A (g0 p).1) (!(decide (c = p.2) == (g0 p).2)))), ?_, s2⟩
          rw [mov_1 lp hc]
          show [some (V.ref r), some (V.ref d), some (V.int (c : Int)), some (V.ref F), some (V.ref q), some (V.int (LF.nx (rw_ A (g0 p).1) (!(decide (c = p.2) == (g0 p).2)) : Nat)), some (V.bl (!decide (V.bl (g0 p).2 = V.bl (LF.fl (rw_ A (g0 p).1) (!(decide (c = p.2) == (g0 p).2)))))), some (V.bl _)] = _
          rw [decBl]
        · refine ite_no (key.trans (decide_eq_false hc)) ?_
          have e : movG A g0 c p = g0 p := by
            unfold movG
            rw [if_neg fun z => hc (.inl z), if_neg fun z => hc (.inr z)]
          refine ⟨x7, ?_, fun _ _ e => e⟩
          rw [e]
          rfl
      · rintro _ H2 ⟨x7, rfl, s2⟩
        refine ⟨_, rfl, _, rfl, by show 2 ≤ sizeLine; decide, fun tp htp => ?_⟩
        have s3 := s2.trans (Same.new (o := .tup [V.int ((movG A g0 c p).1 : Int), V.bl (movG A g0 c p).2]) htp)
        have hF3 := s3 _ _ hF'
        have hq3 := s3 _ _ hq
        have pn : p ∉ (prs n).take i := fun z => by
          obtain ⟨j, hj⟩ := List.getElem?_of_mem z
          have hji : j < i := by
            have := (List.getElem?_eq_some_iff.mp hj).1
            rw [List.length_take] at this
            omega
          rw [List.getElem?_take_of_lt hji] at hj
          obtain ⟨l1, e1⟩ := List.getElem?_eq_some_iff.mp hj
          obtain ⟨l2, e2⟩ := List.getElem?_eq_some_iff.mp hp
          exact List.pairwise_iff_getElem.mp (RG3.prs_nodup n) j i l1 l2 hji (e1.trans e2.symm)
        have hl : (pdL ((prs n).take i) T').length < sizeLine := by
          unfold pdL
          rw [List.length_map, List.length_take]
          have := RG3.prs_few hn
          exact Nat.lt_of_le_of_lt (Nat.le_trans (Nat.min_le_right _ _) this) (by decide)
        have htp3 : (upd H2 tp (.tup [V.int ((movG A g0 c p).1 : Int), V.bl (movG A g0 c p).2])) tp = some (.tup [V.int ((movG A g0 c p).1 : Int), V.bl (movG A g0 c p).2]) := upd_same
        generalize (upd H2 tp (.tup [V.int ((movG A g0 c p).1 : Int), V.bl (movG A g0 c p).2])) = H3 at s3 hF3 hq3 htp3 ⊢
        have et : (prs n).take (i + 1) = (prs n).take i ++ [p] := by rw [List.take_add_one, hp]; rfl
        have ed : putK (pdL ((prs n).take i) T') (pk2 p) (V.ref tp) = pdL ((prs n).take (i + 1)) (fun q => if q = p then tp else T' q) := by
          rw [putK_new _ (pd_none pn), et]
          unfold pdL
          rw [List.map_append]
          congr 1
          · refine List.map_congr_left fun z hz => ?_
            have e : ¬ z = p := fun e => by rw [e] at hz; exact pn hz
            show _ = (pk2 z, V.ref (if z = p then tp else T' z))
            rw [if_neg e]
          · show [(pk2 p, V.ref tp)] = [(pk2 p, V.ref (if p = p then tp else T' p))]
            rw [if_pos rfl]
        refine ⟨_, rfl, _, rfl, F, _, rfl, DPut.t hF3 hq3 hl, ?_⟩
        rw [ed]
        refine ⟨_, _, _, _, fun q => if q = p then tp else T' q, rfl, fun b o bF e => ?_, upd_same, fun z hz => ?_⟩
        · rw [upd_ne bF]
          exact s3 _ _ (kp b o bF e)
        · rw [et] at hz
          by_cases e : z = p
          · subst e
            show upd _ _ _ (if z = z then tp else T' z) = some _
            rw [if_pos rfl, upd_ne (ne_of htp3 hF3 (by intro z; cases z))]
            exact htp3
          · rcases List.mem_append.mp hz with hz | hz
            · show upd _ _ _ (if z = p then tp else T' z) = some _
              have h1 := s3 _ _ (hT' z hz)
              rw [if_neg e, upd_ne (ne_of h1 hF3 (by intro z; cases z))]
              exact h1
            · exact absurd (List.mem_singleton.mp hz) e
    · rintro _ H' ⟨x4, x5, x6, x7, T', rfl, kp, hF', hT'⟩
      have el : (prs n).take (pdL (prs n) Tt).length = prs n := List.take_of_length_le (by unfold pdL; rw [List.length_map]; exact Nat.le_refl _)
      rw [el] at hF' hT'
      refine ⟨kp _ _ (Ne.symm Fd) gd, ?_⟩
      refine ⟨_, rfl, kk F _ (bk H' _ (fun b o b1 b2 e => kp b o b1 (unF b o b2 e)) rfl) hF ⟨T', ?_, fun z hz => ?_⟩⟩
      · rw [upd_ne Fd]
        exact hF'
      · show _ = some _
        have h1 := hT' z hz
        have h2 := kp _ _ (Ne.symm Fd) gd
        rw [upd_ne (ne_of h1 h2 (by intro z; cases z))]
        exact h1
end
end PA

set_option maxHeartbeats 2000000
/-! dicts whose keys are nested tuples of ints, bools, texts and None -/
namespace L2
open PySem PySem.Spec PyProof.Rows
mutual
/-- the value counts as the key -/
inductive NkV (H : Hp) : NestedKey → V → Prop
  | non : NkV H .none .non
  | int (i : Int) : NkV H (.num i) (.int i)
  | bl (b : Bool) : NkV H (.num (if b = true then 1 else 0)) (.bl b)
  | text (x : Str) : NkV H (.text x) (.str x)
  | tup {b : Addr} {xs : List V} {ks : List NestedKey} : H b = some (.tup xs) → NkAll H ks xs → NkV H (.tup ks) (.ref b)
inductive NkAll (H : Hp) : List NestedKey → List V → Prop
  | nil : NkAll H [] []
  | cons {k : NestedKey} {v : V} {ks : List NestedKey} {vs : List V} : NkV H k v → NkAll H ks vs → NkAll H (k :: ks) (v :: vs)
end
section
variable {P : Program} {w : World} {H H' : Hp} {h : Heap}
mutual
theorem NkV.is (ok : HOk P w H h) : ∀ {k : NestedKey} {v : V} {u : Value}, NkV H k v → RelV v u → NestedIs h k u
  | _, _, u, .non, r => by
    cases (show u = Value.none from r)
    exact .none
  | _, _, u, .int i, r => by
    obtain ⟨t, rfl⟩ := r
    exact .int i t
  | _, _, u, .bl b, r => by
    cases (show u = Value.bool b from r)
    exact .bool rfl
  | _, _, u, .text x, r => by
    obtain ⟨t, rfl⟩ := r
    exact .text x t
  | _, _, u, .tup e a, r => by
    cases (show u = Value.ref _ from r)
    obtain ⟨_, its, rv, o, h1, h2, n, h3⟩ := (show ObjOk P w H h _ (.tup _) from ok _ _ e)
    exact .tup h1 h2 h3 (by simpa using NkAll.is ok a rv)
theorem NkAll.is (ok : HOk P w H h) : ∀ {ks : List NestedKey} {vs : List V} {us : List Value}, NkAll H ks vs → Vals vs us → NestedAll h ks us
  | [], _, _, .nil, .nil => .nil
  | _ :: _, _, _, .cons a b, .cons r rs => .cons (NkV.is ok a r) (NkAll.is ok b rs)
end
mutual
theorem NkV.kt (kt : ∀ c ys, H c = some (.tup ys) → H' c = some (.tup ys)) : ∀ {k : NestedKey} {v : V}, NkV H k v → NkV H' k v
  | _, _, .non => .non
  | _, _, .int i => .int i
  | _, _, .bl b => .bl b
  | _, _, .text x => .text x
  | _, _, .tup e a => .tup (kt _ _ e) (NkAll.kt kt a)
theorem NkAll.kt (kt : ∀ c ys, H c = some (.tup ys) → H' c = some (.tup ys)) : ∀ {ks : List NestedKey} {vs : List V}, NkAll H ks vs → NkAll H' ks vs
  | _, _, .nil => .nil
  | _, _, .cons a b => .cons (NkV.kt kt a) (NkAll.kt kt b)
end
end
/-- a tuple that is the key k stands at b -/
def KeyN (H : Hp) (b : Addr) (k : NestedKey) : Prop := NkV H k (.ref b) ∧ k.depth ≤ 8
abbrev dnK (P : Program) (w : World) : HeapKind P w NestedKey := nestedKind P w
section
variable {P : Program} {w : World} {H H' : Hp} {h : Heap} {a b d : Addr}
theorem KeyN.is {k : NestedKey} (x : KeyN H b k) (ok : HOk P w H h) : (dnK P w).is h k b := ⟨x.1.is ok rfl, x.2⟩
theorem KeyN.kt {k : NestedKey} (x : KeyN H b k) (kt : ∀ c ys, H c = some (.tup ys) → H' c = some (.tup ys)) : KeyN H' b k := ⟨x.1.kt kt, x.2⟩
theorem nroom {A : Around} (hu : A.units + 64 < cLine) : (dnK P w).room A.in1 := by
  show A.in1.units + 8 < cLine
  have : A.in1.units = A.units + 1 := rfl
  omega
abbrev DNE := NestedKey × Addr × V
abbrev DNW := NestedKey × Addr × Value
abbrev DNRel : List DNE → List DNW → Prop := Paired fun (p : DNE) (q : DNW) => p.1 = q.1 ∧ p.2.1 = q.2.1 ∧ RelV p.2.2 q.2.2
def dnR (P : Program) (w : World) (a : Addr) (kvs : List DNE) (h : Heap) : Prop := kvs.length ≤ sizeLine ∧ (a == sysModules) = false ∧
  ∃ xs : List DNW, DNRel kvs xs ∧ ∃ o es ep, h.get? a = some o ∧ o.ExactDict ∧ o.data = .dict es ep ∧ es.toList = xs.map (entryOfKey (dnK P w)) ∧ (xs.map (·.1)).Nodup
/-- the dict at a with these entries: key, the tuple that is the key, value -/
def DNX (P : Program) (w : World) (a : Addr) (kvs : List DNE) : HO := .ext (dnR P w a kvs)
theorem dn_ok {kvs : List DNE} (R : dnR P w a kvs h) : ObjOk P w H h a (DNX P w a kvs) := by
  obtain ⟨z, y, xs, r, o, es, ep, h1, h2⟩ := id R
  refine ⟨R, ⟨o, h1⟩, fun g1 g2 p k => ?_⟩
  obtain ⟨z, y, xs, r, o, es, ep, h1, h2⟩ := p
  exact ⟨z, y, xs, r, o, es, ep, k _ h1, h2⟩
/-- the dict at d: keys and values -/
def DnAt (P : Program) (w : World) (H : Hp) (d : Addr) (ps : List (NestedKey × V)) : Prop := ∃ kvs : List DNE, H d = some (DNX P w d kvs) ∧ kvs.map (fun p => (p.1, p.2.2)) = ps ∧ ∀ p ∈ kvs, KeyN H p.2.1 p.1
theorem DnAt.kt {ps : List (NestedKey × V)} (x : DnAt P w H d ps) (hd : ∀ o, H d = some o → H' d = some o) (kt : ∀ c ys, H c = some (.tup ys) → H' c = some (.tup ys)) : DnAt P w H' d ps :=
  let ⟨kvs, e, m, k⟩ := x; ⟨kvs, hd _ e, m, fun p hp => (k p hp).kt kt⟩
theorem DnAt.same {ps : List (NestedKey × V)} (x : DnAt P w H d ps) (s : ∀ b o, H b = some o → H' b = some o) : DnAt P w H' d ps := x.kt (fun _ e => s _ _ e) fun _ _ e => s _ _ e
theorem dn_val {kvs : List DNE} {xs : List DNW} (r : DNRel kvs xs) (k : NestedKey) : RelO (valV (kvs.map fun p => (p.1, p.2.2)) k) ((atKey xs k).map (·.2)) := by
  induction r with
  | nil => exact True.intro
  | @cons p q ps qs h t ih =>
    obtain ⟨h1, h2, h3⟩ := h
    rw [List.map_cons]
    by_cases e : p.1 = k
    · have b : atKey (q :: qs) k = some q.2 := by simp [atKey, List.find?_cons, h1.symm.trans e]
      rw [valV_pos e, b]
      exact h3
    · have b : atKey (q :: qs) k = atKey qs k := by
        have e' : ¬ q.1 = k := fun z => e (h1.trans z)
        simp [atKey, List.find?_cons, e']
      rw [valV_neg e, b]
      exact ih
theorem dn_of {kvs : List DNE} (ok : HOk P w H h) (e : H d = some (DNX P w d kvs)) (ka : ∀ p ∈ kvs, KeyN H p.2.1 p.1) : kvs.length ≤ sizeLine ∧ (d == sysModules) = false ∧ ∃ xs, DNRel kvs xs ∧ h.DictOfH (dnK P w) d xs := by
  obtain ⟨z, y, xs, r, o, es, ep, h1, h2, h3, h4, h5⟩ := (ok d _ e).1
  refine ⟨z, y, xs, r, o, es, ep, h1, h2, h3, h4, fun x hx => ?_, h5⟩
  have all : ∀ {l : List DNE} {m : List DNW}, DNRel l m → (∀ p ∈ l, KeyN H p.2.1 p.1) → ∀ x ∈ m, (dnK P w).is h x.1 x.2.1 := by
    intro l m q
    induction q with
    | nil => intro _ x hx; cases hx
    | @cons p q ps qs hq t ih =>
      intro g x hx
      rcases List.mem_cons.mp hx with rfl | hx
      · have := (g p List.mem_cons_self).is ok
        rw [hq.1, hq.2.1] at this
        exact this
      · exact ih (fun p hp => g p (List.mem_cons_of_mem _ hp)) x hx
  exact all r ka x hx
end
section
variable {X : Cx}
theorem op_in_dn (hu : X.A.units + 64 < cLine) : OpR X (compareOp .In) (fun x y H Q => ∃ d b ps k, x = .ref b ∧ y = .ref d ∧ DnAt X.prog X.w H d ps ∧ KeyN H b k ∧ Q (.bl (valV ps k).isSome) H) := by
  intro pins s σ H x y v u Q I rx ry h
  obtain ⟨d, b, ps, k, rfl, rfl, ⟨kvs, e, rfl, ka⟩, hk, q⟩ := h
  cases rx
  cases ry
  obtain ⟨z, hd, xs, r, dd⟩ := dn_of I.hok e ka
  refine wpAny_in_heap (nroom hu) (hk.is I.hok) hd dd ?_
  have e2 := (dn_val r k).isSome_eq
  rw [Option.isSome_map] at e2
  rw [← e2]
  exact ⟨.bl _, H, I.tok _, rfl, q⟩
theorem op_notIn_dn (hu : X.A.units + 64 < cLine) : OpR X (compareOp .NotIn) (fun x y H Q => ∃ d b ps k, x = .ref b ∧ y = .ref d ∧ DnAt X.prog X.w H d ps ∧ KeyN H b k ∧ Q (.bl (!(valV ps k).isSome)) H) := by
  intro pins s σ H x y v u Q I rx ry h
  obtain ⟨d, b, ps, k, rfl, rfl, ⟨kvs, e, rfl, ka⟩, hk, q⟩ := h
  cases rx
  cases ry
  obtain ⟨z, hd, xs, r, dd⟩ := dn_of I.hok e ka
  refine wpAny_notIn_heap (nroom hu) (hk.is I.hok) hd dd ?_
  have e2 := (dn_val r k).isSome_eq
  rw [Option.isSome_map] at e2
  rw [← e2]
  exact ⟨.bl _, H, I.tok _, rfl, q⟩
theorem ix_dn (hu : X.A.units + 64 < cLine) : IxR X (fun x y H Q => ∃ d b ps k v, x = .ref d ∧ y = .ref b ∧ DnAt X.prog X.w H d ps ∧ KeyN H b k ∧ valV ps k = some v ∧ Q v H) := by
  intro value slice pins s σ H x y v u Q I rx ry h hs
  obtain ⟨d, b, ps, k, r, rfl, rfl, ⟨kvs, e, rfl, ka⟩, hk, hv, q⟩ := h
  cases rx
  cases ry
  obtain ⟨z, hd, xs, rel, dd⟩ := dn_of I.hok e ka
  obtain ⟨w', hw, rw'⟩ := RelO.some_of (v := r) (o := (atKey xs k).map (·.2)) (by rw [← hv]; exact dn_val rel k)
  obtain ⟨p, hp, hp2⟩ := Option.map_eq_some_iff.mp hw
  refine tail_any dd.typeIs slot_dict_getitem.lookup (wpAny_getItem_heap (nroom hu) (hk.is I.hok) dd hp ?_) hs
  rw [hp2]
  exact ⟨r, H, I.tok _, rw', q⟩
/-- d[b] = v, the key is new -/
theorem set_dn (hu : X.A.units + 64 < cLine) : PSet X (fun o i v H Q => ∃ d b kvs k, o = .ref d ∧ i = .ref b ∧ H d = some (DNX X.prog X.w d kvs) ∧ (∀ p ∈ kvs, KeyN H p.2.1 p.1) ∧ KeyN H b k ∧ valV (kvs.map fun p => (p.1, p.2.2)) k = none ∧ kvs.length < sizeLine ∧
    Q (upd H d (DNX X.prog X.w d (kvs ++ [(k, b, v)])))) := by
  intro pins s σ H o i v ov iv u Q I ro ri rv h
  obtain ⟨d, b, kvs, k, rfl, rfl, e, ka, hk, hv, hl, q⟩ := h
  cases ro
  cases ri
  obtain ⟨z, hd, xs, rel, dd⟩ := dn_of I.hok e ka
  have hlen := Paired.length rel
  have hn : atKey xs k = none := by
    have e2 := (dn_val rel k).isSome_eq
    rw [Option.isSome_map, hv] at e2
    cases hx : atKey xs k with
    | none => rfl
    | some p => rw [hx] at e2; cases e2
  refine wpAny_setItem_heap (hsz := by rw [← hlen]; exact z) (nroom hu) (hk.is I.hok) dd fun h' dd' hs => ?_
  have es : storedH xs k b u = xs ++ [(k, b, u)] := by
    unfold storedH
    rw [hn]
    rfl
  rw [es] at dd'
  obtain ⟨ob, en, ep, hq, h2, h3, h4, _, h5⟩ := dd'
  refine ⟨_, I.write (x := d) (e := d) (by rw [e]; exact True.intro) (.inl rfl) (fun c y hb z => (hs.2 c hb).trans z) ⟨ob, hq⟩ (dn_ok ⟨?_, hd, _, Paired.snoc rel ⟨rfl, rfl, rv⟩, ob, en, ep, hq, h2, h3, h4, h5⟩), q⟩
  rw [List.length_append]
  exact hl
theorem pe_dnewN {pos : Pos} : PE X (.Dict [] [] pos) (fun _ H Q => ∀ p, H p = none → Q (.ref p) (upd H p (DNX X.prog X.w p []))) := ⟨fun pins s σ H Q I h =>
  wpAny_Dict_empty ⟨.ref s.heap.objs.size, _, I.laid (a := s.heap.objs.size) (o := DNX X.prog X.w s.heap.objs.size []) (t' := s.toks) (fun _ _ q => Heap.get?_push_of_some _ q) (Nat.le_refl _)
    (dn_ok ⟨Nat.zero_le _, beq_eq_false_iff_ne.mpr (Ne.symm (Nat.ne_of_lt I.big)), [], .nil, _, #[], 0, Heap.get?_push_size _ rfl, ⟨rfl, rfl, rfl⟩, rfl, rfl, List.nodup_nil⟩), rfl, h _ (I.hok.fresh (Nat.le_refl _))⟩⟩
end
end L2

set_option maxHeartbeats 2000000
/-! dict(xs) of a list of pairs whose keys are tuples of ints and texts, all different -/
namespace L2
open PySem PySem.Spec PyProof.Rows
abbrev TE3 := Addr × List Key × V
abbrev isTE (K : PySem.W.Frag) (H : Hp) (p : Addr) (e : TE3) : Prop := SqT K H p [.ref e.1, e.2.2] ∧ H e.1 = some (.tup (e.2.1.map kV))
section
variable {X : Cx}
theorem tpairs_of {pins : List (Addr × Obj)} {σ : L2.St} {H : Hp} {s : Shared} (I : Inv X pins σ H s) : ∀ {ps : List Addr} {es : List TE3}, Paired (isTE X.K H) ps es →
    ∃ qs : List (List Key × Addr × Value), KT H (es.map (·.2)) qs ∧ qs.length = ps.length ∧ qs.map (·.1) = es.map (·.2.1) ∧ (∀ x ∈ qs, (tupleKind (mixKind X.prog X.w)).is s.heap x.1 x.2.1) ∧
      ∀ (j : Nat) (q : List Key × Addr × Value), qs[j]? = some q → ∃ b : Addr, ps[j]? = some b ∧ IsTup s.heap b #[.ref q.2.1, q.2.2]
  | _, _, .nil => ⟨[], .nil, rfl, rfl, fun x hx => (List.not_mem_nil hx).elim, fun j q e => by simp at e⟩
  | _, _, .cons (a := p) (b := e) h t => by
    obtain ⟨qs, r, hl, hm, hk, hp⟩ := tpairs_of I t
    obtain ⟨h1, h2⟩ := h
    obtain ⟨its, rv, ht, _⟩ := I.tuple h1
    obtain ⟨u, y, ei, ru, ry⟩ := vals2 rv
    subst ei
    cases (show u = Value.ref e.1 from ru)
    refine ⟨(e.2.1, e.1, y) :: qs, .cons ⟨rfl, h2, ry⟩ r, by rw [List.length_cons, List.length_cons, hl], by rw [List.map_cons, List.map_cons, hm], fun x hx => ?_, fun j q hq => ?_⟩
    · rcases List.mem_cons.mp hx with z | hx
      · subst z
        exact key_of I.hok h2
      · exact hk x hx
    · cases j with
      | zero =>
        have e' : (e.2.1, e.1, y) = q := Option.some.inj hq
        subst e'
        exact ⟨p, rfl, ht⟩
      | succ j =>
        obtain ⟨b, e1, e2⟩ := hp j q (by simpa using hq)
        exact ⟨b, by simpa using e1, e2⟩
theorem call_dictTP (hu : X.A.units + 64 < cLine) (hcalm : X.calm = true) : CallR X (.type "dict") (fun xs H Q => ∃ (a : Addr) (ps : List Addr) (es : List TE3), xs = [.ref a] ∧ SqL X.K H a (ps.map V.ref) ∧ Paired (isTE X.K H) ps es ∧ (es.map (·.2.1)).Nodup ∧
    ∀ p, H p = none → Q (.ref p) (upd H p (.dT (es.map (·.2))))) := by
  intro pins s σ H xs us Q I r q
  obtain ⟨a, ps, es, ex, hq, hp, hn, q⟩ := q
  subst ex
  obtain ⟨u, eu, rx⟩ := vals1 r
  subst eu
  cases rx
  obtain ⟨its, rv, pl, hz⟩ := I.list hq
  have ei := refs_at rv
  subst ei
  rw [List.length_map] at hz
  obtain ⟨qs, rel, hl, hm1, hks, hpr⟩ := tpairs_of I hp
  obtain ⟨o, n, ho, hc, hd, hdat⟩ := pl
  have hroom : (tupleKind (mixKind X.prog X.w)).room X.A.in1.in1 := by
    show X.A.in1.in1.units < cLine
    have : X.A.in1.in1.units = X.A.units + 2 := rfl
    omega
  have hlv : (qs.map fun q => (Value.ref q.2.1, q.2.2)).length = qs.length := List.length_map _
  refine call_dict_pairsH (knd := tupleKind (mixKind X.prog X.w)) (ps := qs) (PairArg.list a ((ps.map Value.ref).toArray) (fun j => ps.getD j 0) (qs.map fun q => (Value.ref q.2.1, q.2.2))) (I.ok.hd hcalm) hroom ⟨⟨o, n, ho, hc, hd, hdat⟩, ?_, fun j k v e => ?_⟩ ⟨hlv.symm, fun i k v e => ?_⟩ (fun h' hk x hx => ?_) (by rw [hlv, hl]; exact hz) fun h' tk hd' k => ?_
  · rw [hlv, hl]
    simp
  · rw [List.getElem?_map] at e
    obtain ⟨q', h1, h2⟩ := Option.map_eq_some_iff.mp e
    injection h2 with e1 e2
    subst e1 e2
    obtain ⟨b, g1, g2⟩ := hpr j q' h1
    have gd : ps.getD j 0 = b := by rw [List.getD_eq_getElem?_getD, g1]; rfl
    refine ⟨by simp [gd, g1], ?_⟩
    show PairAt s.heap (ps.getD j 0) _ _
    rw [gd]
    exact .inl g2
  · rw [show PairRel (qs.map fun q => (Value.ref q.2.1, q.2.2)) i k v = ((qs.map fun q => (Value.ref q.2.1, q.2.2))[i]? = some (k, v)) from rfl, List.getElem?_map] at e
    obtain ⟨q', h1, h2⟩ := Option.map_eq_some_iff.mp e
    injection h2 with e1 e2
    subst e1 e2
    exact ⟨q'.1, q'.2.1, h1, rfl⟩
  · obtain ⟨o', its', n', h1, h2, h3, h4⟩ := hks x hx
    exact ⟨o', its', n', hk _ _ (Nat.ne_of_lt (Heap.lt_size h1)) (List.not_mem_nil) h1, h2, h3, h4⟩
  · rw [storedAllH_nil_of_nodup qs (by rw [hm1]; exact hn)] at hd'
    have hm : (s.heap.objs.size == sysModules) = false := beq_eq_false_iff_ne.mpr (Nat.ne_of_gt I.big)
    have hlen : (es.map (·.2)).length ≤ sizeLine := by
      rw [rel.length, hl]
      exact hz
    have hfr := I.hok.fresh (Nat.le_refl s.heap.objs.size)
    obtain ⟨od, es', ep, g1, g2, g3, g4, _, g5⟩ := hd'
    have rel' : KT (upd H s.heap.objs.size (.dT (es.map (·.2)))) (es.map (·.2)) qs := rel.keeps fun b ys e => by
      rw [upd_ne (ne_of_none e hfr)]
      exact e
    exact ⟨.ref s.heap.objs.size, upd H s.heap.objs.size (.dT (es.map (·.2))), I.laid (t' := tk) (fun b o e => k b o List.not_mem_nil e) (Nat.le_refl _) (show ObjOk X.prog X.w _ _ _ (.dT (es.map (·.2))) from ⟨hlen, hm, qs, rel', od, es', ep, g1, g2, g3, g4, g5⟩), rfl, q _ hfr⟩
end
end L2

set_option maxHeartbeats 8000000
namespace PA
open PySem L2 RZ
open C8 (pss_cut tCut)
open RG3 (Pg prs movG begG mem_prs one rw_)
abbrev sBegP : Stmt := top 59
abbrev NBegP : List Str := ["_law_rule", "_law_marks", "_law_some", "_law_low", "_law_high"]
theorem boot_dict' : bootBuiltins "dict" = some (.type "dict") := by decide +kernel
theorem take_new {n i : Nat} {p : Nat × Nat} (hp : (prs n)[i]? = some p) : p ∉ (prs n).take i := fun z => by
  obtain ⟨j, hj⟩ := List.getElem?_of_mem z
  have hji : j < i := by
    have := (List.getElem?_eq_some_iff.mp hj).1
    rw [List.length_take] at this
    omega
  rw [List.getElem?_take_of_lt hji] at hj
  obtain ⟨l1, e1⟩ := List.getElem?_eq_some_iff.mp hj
  obtain ⟨l2, e2⟩ := List.getElem?_eq_some_iff.mp hp
  exact List.pairwise_iff_getElem.mp (RG3.prs_nodup n) j i l1 l2 hji (e1.trans e2.symm)
theorem paired_map {α β γ : Type} {R : α → β → Prop} {f : γ → α} {g : γ → β} : ∀ {l : List γ}, (∀ x ∈ l, R (f x) (g x)) → Paired R (l.map f) (l.map g)
  | [], _ => .nil
  | x :: l, h => .cons (h x List.mem_cons_self) (paired_map fun y hy => h y (List.mem_cons_of_mem _ hy))
/-- the pairs of the first i cases with all behind them -/
def prsI (n i : Nat) : List (Nat × Nat) := (List.range i).flatMap fun l => (List.range (n - l - 1)).map fun j => (l, l + 1 + j)
theorem prsI_succ (n i : Nat) : prsI n (i + 1) = prsI n i ++ (List.range (n - i - 1)).map fun j => (i, i + 1 + j) := by
  unfold prsI
  rw [List.range_succ, List.flatMap_append, List.flatMap_singleton]
theorem prsI_few {n i : Nat} (h : n ≤ 9) (hi : i ≤ n) : (prsI n i).length ≤ 36 := by
  have e : (prsI n i).length ≤ (prs n).length := by
    obtain ⟨d, rfl⟩ : ∃ d, n = i + d := ⟨n - i, by omega⟩
    unfold prs
    rw [List.range_add, List.flatMap_append, List.length_append]
    exact Nat.le_add_right _ _
  exact Nat.le_trans e (RG3.prs_few h)
def spBegP (K : PySem.W.Frag) (C : Addr) : Sp := fun vs H Q _ => ∃ (r M : Addr) (A : List Rn) (st : List Nat) (m : Nat) (ms : List Nat), vs = [.ref r, .ref M] ∧ RuleZ K C H r A st (m : Int) ∧ H M = some (.lst (natsV ms)) ∧ ms.length ≤ 9 ∧ (∀ i, i < ms.length → ms.getD i 0 < m) ∧ st.length = m * m ∧ m ≤ 4 ∧
  ∀ d' H', Same H H' → H d' = none → PD H' d' ms.length (begG st m ms) → Q (.ref d') H'
theorem starts_at {st : List Nat} {i : Nat} (h : i < st.length) : ((stZ st).map V.int)[i]? = some (.int ((st.getD i 0 : Nat) : Int)) := by
  unfold stZ
  rw [List.getElem?_map, List.getElem?_map, List.getElem?_eq_getElem h, List.getD_eq_getElem?_getD, List.getElem?_eq_getElem h]
  rfl
section
variable {P : Program} {w : World} {K : PySem.W.Frag} {mg : Str → Option Value} {base : Heap} {C : Addr}
theorem scBegP : FnScope NBegP ["_law_rule", "_law_marks"] (defScope sBegP) := ⟨rfl, rfl, rfl, by decide +kernel, rfl, by decide +kernel, by decide +kernel⟩
theorem ok_begP {f : Addr} {fd : FuncData} (F : Fun K "_law_begun" "_law_begun" sBegP f fd) (T : Txt K mg C) (Td : mg "dict" = none) : FnOk P w K mg base CX0 1 f fd ["_law_rule", "_law_marks"] (spBegP K C) := by
  refine F.ok scBegP (fun vs H Q E h => ?_) (fun cdv A0 outer s H vs Q E hr h => ?_)
  · obtain ⟨_, _, _, _, _, _, rfl, _⟩ := h
    rfl
  · obtain ⟨r, M, A, st, m, ms, rfl, R0, hM, hn, hms, hst, m4, kk⟩ := h
    have hu := u1 hr.units
    refine ⟨_, pss_cons (ps_set (i := 2) scBegP.nd rfl (Or.inl rfl) (pe_lst pa_nil))
      (pss_cons (ps_for PassesOwn.never rfl (pi_range1 (by rfl) T.range_ (pa_cons (pe_callB call_len_seq (by rfl) T.len_ PySem.boot_len (pa_cons (pv 1) pa_nil)) pa_nil)) (pg_name (i := 3) scBegP.nd rfl (Or.inr rfl))
        (pss_one (ps_set (i := 2) scBegP.nd rfl (Or.inl rfl) (pe_op op_cat (pv 2) (pe_lc (own := [("_law_high", 4)]) (g := gName 4) (tt := tYes) (by rfl) scBegP.nd (pi_range2 (by rfl) T.range_ (pa_cons (pe_op op_add (pv 3) pe_int) (pa_cons (pe_callB call_len_seq (by rfl) T.len_ PySem.boot_len (pa_cons (pv 1) pa_nil)) pa_nil))) (blkOk_by (N := NBegP) (sc := defScope sBegP) (by decide +kernel))
          (fun _ _ _ _ _ => pg_name (i := 4) scBegP.nd rfl (Or.inl rfl)) (fun _ _ _ _ _ => pts_nil) (fun _ _ _ _ _ => pe_tup (pa_cons (pv 3) (pa_cons (pv 4) pa_nil))))))))
      (pss_one (ps_ret (pe_callTy (call_dictTP hr.units rfl) (by rfl) Td boot_dict' (pa_cons (pe_lc (own := [("_law_low", 3), ("_law_high", 4)]) (g := gTup K 2 (gCons (gName 3) (gCons (gName 4) gNil))) (tt := tYes) (by rfl) scBegP.nd (pi_list (pv 2)) (blkOk_by (N := NBegP) (sc := defScope sBegP) (by decide +kernel))
        (fun _ _ _ _ _ => by exact pg_tup rfl (pgs_cons (pg_name (i := 3) scBegP.nd rfl (Or.inl rfl)) (pgs_cons (pg_name (i := 4) scBegP.nd rfl (Or.inl rfl)) pgs_nil))) (fun _ _ _ _ _ => pts_nil)
        (fun _ _ _ _ _ => by exact pe_tup (pa_cons (pe_tup (pa_cons (pv 3) (pa_cons (pv 4) pa_nil))) (pa_cons (pe_tup (pa_cons (pe_ix (ix_tupK (K := K) rfl) (pe_fldF (K := K) rfl (pv 0)) (pe_op op_add (pe_op op_mul (pe_ix (ix_listK (K := K) rfl) (pv 1) (pv 3) (fun _ _ => rfl)) (pe_fldF (K := K) rfl (pv 0))) (pe_ix (ix_listK (K := K) rfl) (pv 1) (pv 4) (fun _ _ => rfl))) (fun _ _ => rfl)) (pa_cons pe_bl pa_nil))) pa_nil)))) pa_nil))))), ?_⟩
    have nl : (natsV ms).length = ms.length := List.length_map _
    refine ⟨Nat.zero_le _, fun S0 hS0 => ?_⟩
    have e0 := Same.new (o := .lst []) hS0
    have g0 : (upd H S0 (.lst [])) S0 = some (.lst []) := upd_same
    generalize (upd H S0 (.lst [])) = H0 at e0 g0 ⊢
    have hM0 := e0 _ _ hM
    refine ⟨_, rfl, M, natsV ms, rfl, .inl (SqL.of hM0), _, rfl, by omega, by omega, ?_⟩
    refine for_range (n := (((natsV ms).length : Nat) : Int).toNat) (fun i σ' H' => ∃ (S : Addr) (acc : List V) (x3 : Option V), σ' = [some (.ref r), some (.ref M), some (.ref S), x3, none] ∧ Same H0 H' ∧ H' S = some (.lst acc) ∧ Ea H' isP acc (prsI ms.length i)) ?_ ?_ ?_
    · exact ⟨S0, [], _, rfl, fun _ _ e => e, g0, .nil⟩
    · rintro i _ H' hi ⟨S, acc, x3, rfl, s1, hS, eS⟩
      have hi : i < ms.length := by
        rw [nl, Int.toNat_natCast] at hi
        exact hi
      have hM1 := s1 _ _ hM0
      rw [show (0 : Int) + (i : Int) = (i : Int) from Int.zero_add _]
      refine ⟨_, rfl, _, rfl, _, _, rfl, rfl, _, rfl, M, natsV ms, rfl, .inl (SqL.of hM1), _, _, rfl, ⟨by omega, by omega, by omega, by omega⟩, fun Dc hDc => ?_⟩
      have ej : ((((natsV ms).length : Nat) : Int) - ((i : Int) + 1)).toNat = ms.length - i - 1 := by rw [nl]; omega
      refine lc_range (lo := (i : Int) + 1) (n := ((((natsV ms).length : Nat) : Int) - ((i : Int) + 1)).toNat) (fun j H2 => Same H' H2 ∧ ∃ acc2, H2 Dc = some (.lst acc2) ∧ Ea H2 isP acc2 ((List.range j).map fun j => (i, i + 1 + j))) ⟨Same.new hDc, [], upd_same, .nil⟩ ?_ ?_
      · rintro j H2 hj ⟨s2, acc2, hD, eD⟩
        rw [ej] at hj
        refine ⟨rfl, ?_⟩
        dsimp only [tYes]
        rw [if_pos rfl, show (i : Int) + 1 + (j : Int) = ((i + 1 + j : Nat) : Int) by omega]
        refine ⟨_, rfl, _, rfl, by show 2 ≤ sizeLine; decide, fun t ht => ?_⟩
        have st := Same.new (o := .tup (prV (i, i + 1 + j))) ht
        have gt : (upd H2 t (.tup (prV (i, i + 1 + j)))) t = some (.tup (prV (i, i + 1 + j))) := upd_same
        have hD2 := st _ _ hD
        have ln : acc2.length = j := by
          have := eD.1
          rwa [List.length_map, List.length_range] at this
        refine ⟨acc2, hD2, ?_, ?_, acc2 ++ [.ref t], upd_same, ?_⟩
        · rw [ln]
          exact Nat.lt_of_lt_of_le (by omega : j < 10) (by decide)
        · intro b o e
          rw [upd_ne (ne_of_none e hDc)]
          exact st _ _ (s2 _ _ e)
        · have tk : ∀ b q, isP (upd H2 t (.tup (prV (i, i + 1 + j)))) b q → isP (upd (upd H2 t (.tup (prV (i, i + 1 + j)))) Dc (.lst (acc2 ++ [.ref t]))) b q := fun b q e => by
            show (upd (upd H2 t (.tup (prV (i, i + 1 + j)))) Dc (.lst (acc2 ++ [.ref t]))) b = _
            rw [upd_ne (ne_of (H := upd H2 t (.tup (prV (i, i + 1 + j)))) e hD2 (by intro z; cases z))]
            exact e
          rw [List.range_succ, List.map_append]
          exact Ea.push (eD.imp fun c q z => tk c q (st _ _ z)) (tk _ _ gt)
      · rintro H2 ⟨s2, acc2, hD, eD⟩
        rw [ej] at eD
        have hS2 := s2 _ _ hS
        have l1 : acc.length = (prsI ms.length i).length := eS.1
        have l2 : acc2.length = ms.length - i - 1 := by
          have := eD.1
          rwa [List.length_map, List.length_range] at this
        have l3 := prsI_few hn (Nat.le_of_lt hi)
        refine ⟨S, Dc, acc, acc2, rfl, rfl, hS2, hD, Nat.le_trans (by omega : _ ≤ 50) (by decide), fun S3 hS3 => ?_⟩
        have s3 := Same.new (o := .lst (acc ++ acc2)) hS3
        refine ⟨S3, acc ++ acc2, _, rfl, (s1.trans s2).trans s3, upd_same, ?_⟩
        rw [prsI_succ]
        exact (eS.imp fun c q z => s3 _ _ (s2 _ _ z)).append (eD.imp fun c q z => s3 _ _ z)
    · rintro _ H1 ⟨S, acc, x3, rfl, s1, hS, eS⟩
      rw [nl, Int.toNat_natCast] at eS
      have eS : Ea H1 isP acc (prs ms.length) := eS
      have sH := e0.trans s1
      have R1 := R0.same sH
      obtain ⟨dx, RR, Z, refs, hpo, hRR, hEE, hZ⟩ := id R1
      have hM1 := s1 _ _ hM0
      refine ⟨_, rfl, S, rfl, ⟨_, SqL.of hS⟩, fun Dc hDc => ?_⟩
      refine lc_list (fun i H' => Same H1 H' ∧ ∃ Pf Kf Tf : Nat × Nat → Addr, H' Dc = some (.lst (((prs ms.length).take i).map fun p => V.ref (Pf p))) ∧ ∀ p ∈ (prs ms.length).take i, H' (Pf p) = some (.tup [.ref (Kf p), .ref (Tf p)]) ∧ H' (Kf p) = some (.tup (prV p)) ∧ isS H' (Tf p) (begG st m ms p))
        ⟨Same.new hDc, fun _ => 0, fun _ => 0, fun _ => 0, upd_same, fun p hp => (List.not_mem_nil hp).elim⟩ (fun i H' _ q => SqL.of (q.1 _ _ hS)) ?_ ?_
      · rintro i x H' hx ⟨s2, Pf, Kf, Tf, hD, hall⟩
        obtain ⟨c, p, rfl, hp, hc⟩ := eS.at_ hx
        have pm : p ∈ prs ms.length := List.mem_of_getElem? hp
        obtain ⟨p1, p2⟩ := mem_prs.mp pm
        have pn := take_new hp
        refine ⟨c, _, rfl, SqT.of (s2 _ _ hc), rfl, _, _, rfl, _, _, rfl, rfl, rfl, ?_⟩
        dsimp only [tYes]
        rw [if_pos rfl]
        refine ⟨_, rfl, _, rfl, by show 2 ≤ sizeLine; decide, fun kt hkt => ?_⟩
        have s3 := Same.new (o := .tup (prV p)) hkt
        have gk : (upd H' kt (.tup (prV p))) kt = some (.tup (prV p)) := upd_same
        have hp3 := s3 _ _ (s2 _ _ hpo)
        have hM3 := s3 _ _ (s2 _ _ hM1)
        have hZ3 := SqT.up hZ (s2.trans s3)
        have m1 : LF.at_ ms p.1 = ms.getD p.1 0 := rfl
        have ixl : ms.getD p.1 0 * m + ms.getD p.2 0 < st.length := by
          rw [hst]
          exact RG3.tri_ix (hms _ (by omega)) (hms _ (by omega))
        have cm : CMul ((LF.at_ ms p.1 : Nat) : Int) (m : Int) := .inr ⟨by omega, by omega⟩
        have hat : atI ((stZ st).map V.int) (((LF.at_ ms p.1 : Nat) : Int) * (m : Int) + ((LF.at_ ms p.2 : Nat) : Int)) = some (.int (((begG st m ms p).1 : Nat) : Int)) := by
          have e : ((LF.at_ ms p.1 : Nat) : Int) * (m : Int) + ((LF.at_ ms p.2 : Nat) : Int) = ((ms.getD p.1 0 * m + ms.getD p.2 0 : Nat) : Int) := by
            rw [Int.natCast_add, Int.natCast_mul]
            rfl
          rw [e]
          exact atI_nat (starts_at ixl)
        refine ⟨_, rfl, r, C, dx, _, _, rfl, hp3, T.cl, T.nS, rf_starts _ _ _, _, rfl, _, rfl, M, _, (p.1 : Int), _, rfl, rfl, SqL.of hM3, nat_at (by omega), _, rfl, r, C, dx, _, _, rfl, hp3, T.cl, T.nM, rf_marks _ _ _, _, _, rfl, rfl, cm, _, rfl, _, rfl, M, _, (p.2 : Int), _, rfl, rfl, SqL.of hM3, nat_at (by omega), _, _, rfl, rfl, Z, _, _, _, rfl, rfl, hZ3, hat, by show 2 ≤ sizeLine; decide, fun vt hvt => ?_⟩
        have s4 := Same.new (o := .tup [V.int (((begG st m ms p).1 : Nat) : Int), V.bl false]) hvt
        have gv : (upd (upd H' kt (.tup (prV p))) vt (.tup [V.int (((begG st m ms p).1 : Nat) : Int), V.bl false])) vt = some (.tup [V.int (((begG st m ms p).1 : Nat) : Int), V.bl false]) := upd_same
        have gk4 := s4 _ _ gk
        refine ⟨by show 2 ≤ sizeLine; decide, fun pt hpt => ?_⟩
        have s5 := Same.new (o := .tup [V.ref kt, V.ref vt]) hpt
        have s35 : Same H' (upd (upd (upd H' kt (.tup (prV p))) vt (.tup [V.int (((begG st m ms p).1 : Nat) : Int), V.bl false])) pt (.tup [V.ref kt, V.ref vt])) := (s3.trans s4).trans s5
        have gv5 := s5 _ _ gv
        have gk5 := s5 _ _ gk4
        have gp5 : (upd (upd (upd H' kt (.tup (prV p))) vt (.tup [V.int (((begG st m ms p).1 : Nat) : Int), V.bl false])) pt (.tup [V.ref kt, V.ref vt])) pt = some (.tup [V.ref kt, V.ref vt]) := upd_same
        have hD5 := s35 _ _ hD
        have ln : (((prs ms.length).take i).map fun p => V.ref (Pf p)).length < sizeLine := by
          rw [List.length_map, List.length_take]
          exact Nat.lt_of_le_of_lt (Nat.le_trans (Nat.min_le_right _ _) (RG3.prs_few hn)) (by decide)
        have et : (prs ms.length).take (i + 1) = (prs ms.length).take i ++ [p] := by rw [List.take_add_one, hp]; rfl
        have ne : ∀ z ∈ (prs ms.length).take i, ¬ z = p := fun z hz e => by rw [e] at hz; exact pn hz
        refine ⟨_, hD5, ln, fun b o e => ?_, fun q => if q = p then pt else Pf q, fun q => if q = p then kt else Kf q, fun q => if q = p then vt else Tf q, ?_, fun z hz => ?_⟩
        · rw [upd_ne (ne_of_none e hDc)]
          exact s35 _ _ (s2 _ _ e)
        · rw [upd_same, et, List.map_append]
          refine congrArg (fun l => some (HO.lst l)) ?_
          congr 1
          · refine List.map_congr_left fun z hz => ?_
            show _ = V.ref (if z = p then pt else Pf z)
            rw [if_neg (ne z hz)]
          · show _ = [V.ref (if p = p then pt else Pf p)]
            rw [if_pos rfl]
        · have tk : ∀ b xs, (upd (upd (upd H' kt (.tup (prV p))) vt (.tup [V.int (((begG st m ms p).1 : Nat) : Int), V.bl false])) pt (.tup [V.ref kt, V.ref vt])) b = some (.tup xs) → (upd (upd (upd (upd H' kt (.tup (prV p))) vt (.tup [V.int (((begG st m ms p).1 : Nat) : Int), V.bl false])) pt (.tup [V.ref kt, V.ref vt])) Dc (.lst ((((prs ms.length).take i).map fun p => V.ref (Pf p)) ++ [.ref pt]))) b = some (.tup xs) := fun b xs e => by
            rw [upd_ne (ne_of e hD5 (by intro z; cases z))]
            exact e
          rw [et] at hz
          by_cases e : z = p
          · subst e
            dsimp only
            rw [if_pos rfl, if_pos rfl, if_pos rfl]
            exact ⟨tk _ _ gp5, tk _ _ gk5, tk _ _ gv5⟩
          · rcases List.mem_append.mp hz with hz | hz
            · obtain ⟨a1, a2, a3⟩ := hall z hz
              dsimp only
              rw [if_neg e, if_neg e, if_neg e]
              exact ⟨tk _ _ (s35 _ _ a1), tk _ _ (s35 _ _ a2), tk _ _ (s35 _ _ a3)⟩
            · exact absurd (List.mem_singleton.mp hz) e
      · rintro H2 ⟨s2, Pf, Kf, Tf, hD, hall⟩
        have el : (prs ms.length).take acc.length = prs ms.length := List.take_of_length_le (Nat.le_of_eq eS.1.symm)
        rw [el] at hD hall
        have e1 : ((prs ms.length).map fun p => V.ref (Pf p)) = ((prs ms.length).map Pf).map V.ref := (List.map_map ..).symm
        have e2 : ((prs ms.length).map fun p => ((Kf p, pk2 p, V.ref (Tf p)) : TE3)).map (·.2) = pdL (prs ms.length) Tf := List.map_map ..
        refine ⟨Dc, (prs ms.length).map Pf, (prs ms.length).map fun p => ((Kf p, pk2 p, V.ref (Tf p)) : TE3), rfl, SqL.of (by rw [← e1]; exact hD), paired_map fun p hp => ⟨SqT.of (hall p hp).1, (hall p hp).2.1⟩, ?_, fun d' hd' => ?_⟩
        · rw [List.map_map]
          exact RG3.nodup_map (RG3.prs_nodup _) fun a _ b _ e => pk2_inj e
        · rw [e2]
          have s3 := Same.new (o := .dT (pdL (prs ms.length) Tf)) hd'
          refine kk d' _ ((sH.trans s2).trans s3) ?_ ⟨Tf, upd_same, fun p hp => s3 _ _ (hall p hp).2.2⟩
          cases q : H d' with
          | none => rfl
          | some o => rw [s2 _ _ (sH _ _ q)] at hd'; cases hd'
end
end PA

set_option maxHeartbeats 8000000
namespace PA
open PySem L2 RZ
open C8 (pss_cut tCut)
open RG3 (Pg prs movG begG mem_prs one rw_ scP scT bhd NoR tri ringN)
abbrev sLine : Stmt := top 61
abbrev NLine : List Str := ["_law_pairs", "_law_many", "_law_ahead", "_law_low", "_law_high", "_law_one"]
theorem rgZ (n : Nat) : L2.rgV 0 ((n : Nat) : Int) = ((List.range n).map fun x : Nat => (x : Int)).map V.int := by
  unfold L2.rgV
  rw [Int.sub_zero, Int.toNat_natCast, List.map_map]
  refine List.map_congr_left fun x _ => ?_
  show V.int (0 + (x : Int)) = V.int (x : Int)
  rw [Int.zero_add]
def scV (n : Nat) (f : Nat → Nat) : List V := natsV ((List.range n).map f)
theorem ixN_of {n i : Nat} (h : i < n) : ixN n (i : Int) = some i := by
  unfold ixN
  rw [if_pos (by omega), if_pos (by omega)]
  simp
theorem scV_len (n : Nat) (f : Nat → Nat) : (scV n f).length = n := by unfold scV natsV; rw [List.length_map, List.length_map, List.length_range]
theorem scV_at {n i : Nat} (f : Nat → Nat) (h : i < n) : (scV n f)[i]? = some (.int (f i : Int)) := by
  unfold scV natsV
  rw [List.getElem?_map, List.getElem?_map, List.getElem?_range h]
  rfl
theorem scV_set {n i : Nat} (f : Nat → Nat) (h : i < n) : (scV n f).set i (.int ((f i + 1 : Nat) : Int)) = scV n fun x => if i = x then f x + 1 else f x := by
  refine List.ext_getElem? fun j => ?_
  rw [List.getElem?_set]
  by_cases hj : j < n
  · rw [scV_len]
    by_cases e : i = j
    · subst e
      rw [if_pos rfl, if_pos hj, scV_at _ hj]
      show _ = some (V.int ((if i = i then f i + 1 else f i : Nat) : Int))
      rw [if_pos rfl]
    · rw [if_neg e, scV_at f hj, scV_at _ hj]
      show _ = some (V.int ((if i = j then f j + 1 else f j : Nat) : Int))
      rw [if_neg e]
  · have e1 : ∀ f, (scV n f)[j]? = none := fun f => List.getElem?_eq_none (by rw [scV_len]; omega)
    rw [e1, e1]
    by_cases e : i = j
    · exact absurd (e ▸ h) hj
    · rw [if_neg e]
theorem boot_sorted' : bootBuiltins "sorted" = some (.builtin "sorted") := by decide +kernel
theorem rep0 (n : Nat) : (List.replicate ((n : Int)).toNat [V.int 0]).flatten = scV n fun _ => 0 := by
  rw [List.flatten_replicate_singleton, Int.toNat_natCast]
  symm
  rw [List.eq_replicate_iff]
  refine ⟨scV_len _ _, fun x hx => ?_⟩
  unfold scV natsV at hx
  obtain ⟨y, hy, rfl⟩ := List.mem_map.mp hx
  obtain ⟨z, _, rfl⟩ := List.mem_map.mp hy
  rfl
theorem sc_step (n : Nat) (g : Pg) (L : List (Nat × Nat)) (p : Nat × Nat) (h : bhd g p < n) : (scV n (scP g L)).set (bhd g p) (.int ((scP g L (bhd g p) : Int) + 1)) = scV n (scP g (L ++ [p])) := by
  have e : (scP g L (bhd g p) : Int) + 1 = ((scP g L (bhd g p) + 1 : Nat) : Int) := by omega
  rw [e, scV_set _ h]
  congr 1
  funext x
  rw [RG3.scP_snoc]
def spLine : Sp := fun vs H Q _ => ∃ (d : Addr) (n : Nat) (g : Pg), vs = [.ref d, .int (n : Int)] ∧ n ≤ 9 ∧ PD H d n g ∧
  ∀ b H', Same H H' → (NoR g n → b = true) → (∀ l k h, l < k → k < h → h < n → ringN (tri g l k h) = true → b = false) → Q (.bl b) H'
/-- the numbers of cases ahead, sorted -/
theorem line_is {g : Pg} {n : Nat} {ns : List Int} (hp : ns.Perm ((List.range n).map fun x => (scP g (prs n) x : Int))) (hs : ns.Pairwise (· ≤ ·)) :
    (NoR g n → decide (ns = (List.range n).map fun x : Nat => (x : Int)) = true) ∧ (∀ l k h, l < k → k < h → h < n → ringN (tri g l k h) = true → decide (ns = (List.range n).map fun x : Nat => (x : Int)) = false) := by
  have e0 : (List.range n).map (fun x => (scP g (prs n) x : Int)) = ((List.range n).map (scT g n)).map fun x => ((x : Nat) : Int) := by
    rw [List.map_map]
    refine List.map_congr_left fun x hx => ?_
    show ((scP g (prs n) x : Nat) : Int) = ((scT g n x : Nat) : Int)
    rw [RG3.scP_all g (List.mem_range.mp hx)]
  rw [e0] at hp
  have hl : (ns.map Int.toNat).Perm ((List.range n).map (scT g n)) := by
    have := hp.map Int.toNat
    rwa [List.map_map, show (Int.toNat ∘ fun x : Nat => (x : Int)) = id from funext fun x => by simp, List.map_id] at this
  have hb : ns = (ns.map Int.toNat).map fun x => ((x : Nat) : Int) := by
    rw [List.map_map]
    refine (List.map_id ns).symm.trans (List.map_congr_left fun x hx => ?_)
    obtain ⟨y, _, rfl⟩ := List.mem_map.mp (hp.mem_iff.mp hx)
    simp
  have hsl : (ns.map Int.toNat).Pairwise (· ≤ ·) := by
    refine List.pairwise_map.mpr (hs.imp fun {a b} h => ?_)
    omega
  constructor
  · intro h
    refine decide_eq_true ?_
    have := RG3.line_yes h hl hsl
    rw [this] at hb
    exact hb
  · intro l k h h1 h2 h3 r
    refine decide_eq_false fun e => ?_
    refine RG3.line_no h1 h2 h3 r ?_
    have e2 : ns.map Int.toNat = List.range n := by
      rw [e, List.map_map, show (Int.toNat ∘ fun x : Nat => (x : Int)) = id from funext fun x => by simp, List.map_id]
    rw [e2] at hl
    exact hl
section
variable {P : Program} {w : World} {K : PySem.W.Frag} {mg : Str → Option Value} {base : Heap} {C : Addr}
theorem scLine : FnScope NLine ["_law_pairs", "_law_many"] (defScope sLine) := ⟨rfl, rfl, rfl, by decide +kernel, rfl, by decide +kernel, by decide +kernel⟩
theorem ok_line {f : Addr} {fd : FuncData} (F : Fun K "_law_line" "_law_line" sLine f fd) (T : Txt K mg C) (Ts : mg "sorted" = none) : FnOk P w K mg base CX0 1 f fd ["_law_pairs", "_law_many"] spLine := by
  refine F.ok scLine (fun vs H Q E h => ?_) (fun cdv A0 outer s H vs Q E hr h => ?_)
  · obtain ⟨_, _, _, rfl, _⟩ := h
    rfl
  · obtain ⟨d, n, g, rfl, hn, ⟨Tt, hd, hT⟩, kk⟩ := h
    have hu := u1 hr.units
    refine ⟨_, pss_cons (ps_set (i := 2) scLine.nd rfl (Or.inl rfl) (pe_op op_rep (pe_lst (pa_cons pe_int pa_nil)) (pv 1)))
      (pss_cons (ps_lock (ps_for PassesOwn.never rfl (pi_keys (pv 0)) (pg_tup rfl (pgs_cons (pg_name (i := 3) scLine.nd rfl (Or.inl rfl)) (pgs_cons (pg_name (i := 4) scLine.nd rfl (Or.inl rfl)) pgs_nil)))
        (pss_one (ps_if (pt_val (pe_ix ix_tup (pe_dget hu (pv 0) (pe_tup (pa_cons (pv 3) (pa_cons (pv 4) pa_nil))) (fun _ _ => rfl)) pe_int (fun _ _ => rfl)))
          (pss_one (ps_asg (pe_op op_add (pe_ix ix_list (pv 2) (pv 3) (fun _ _ => rfl)) pe_int) (pg_sub (pv 2) (pv 3) set_list)))
          (pss_one (ps_asg (pe_op op_add (pe_ix ix_list (pv 2) (pv 4) (fun _ _ => rfl)) pe_int) (pg_sub (pv 2) (pv 4) set_list)))))))
      (pss_one (ps_ret (pe_cmpR (op_eqD hr.units) (pe_callB cr_sortedI (by rfl) Ts boot_sorted' (pa_cons (pe_lc (own := [("_law_one", 5)]) (g := gName 5) (tt := tYes) (by rfl) scLine.nd (pi_list (pv 2)) (blkOk_by (N := NLine) (sc := defScope sLine) (by decide +kernel))
        (fun _ _ _ _ _ => pg_name (i := 5) scLine.nd rfl (Or.inl rfl)) (fun _ _ _ _ _ => pts_nil)
        (fun _ _ _ _ _ => pe_callTy call_int1 (by rfl) T.int_ boot_int' (pa_cons (pv 5) pa_nil))) pa_nil)) (pe_listRg (by rfl) (by rfl) T.list_ (prg_1 (by rfl) T.range_ (pv 1))) (nomark _))))), ?_⟩
    have n0 : ((n : Nat) : Int).toNat = n := Int.toNat_natCast n
    refine ⟨by show 1 ≤ sizeLine; decide, fun L0 hL0 => ⟨_, rfl, L0, _, _, rfl, rfl, upd_same, by omega, by omega, ?_, fun Ah hAh => ?_⟩⟩
    · rw [n0]
      exact Nat.le_trans (by show 1 * n ≤ 9; omega) (by decide : 9 ≤ sizeLine)
    rw [rep0]
    have s1 : Same H (upd (upd H L0 (.lst [V.int 0])) Ah (.lst (scV n fun _ => 0))) := (Same.new hL0).trans (Same.new hAh)
    have gA : (upd (upd H L0 (.lst [V.int 0])) Ah (.lst (scV n fun _ => 0))) Ah = some (.lst (scV n fun _ => 0)) := upd_same
    have nA : H Ah = none := by
      cases e : H Ah with
      | none => rfl
      | some o => rw [(Same.new hL0) _ _ e] at hAh; cases hAh
    have Ad : Ah ≠ d := fun z => by rw [z, hd] at nA; cases nA
    generalize (upd (upd H L0 (.lst [V.int 0])) Ah (.lst (scV n fun _ => 0))) = H0 at s1 gA ⊢
    have hd0 := s1 _ _ hd
    refine ⟨d, .dT (pdL (prs n) Tt), hd0, trivial, fun od => ?_⟩
    have unF : ∀ b o, b ≠ d → H0 b = some o → (upd H0 d (.frz od (.dT (pdL (prs n) Tt)))) b = some o := fun b o n e => by rw [upd_ne n]; exact e
    have gd : (upd H0 d (.frz od (.dT (pdL (prs n) Tt)))) d = some (.frz od (.dT (pdL (prs n) Tt))) := upd_same
    generalize (upd H0 d (.frz od (.dT (pdL (prs n) Tt)))) = HF at unF gd ⊢
    refine ⟨_, rfl, d, od, rfl, .inr ⟨_, gd, ?_⟩⟩
    refine for_it walk_keysT (fun i σ' H' => ∃ (x3 x4 : Option V), σ' = [some (.ref d), some (.int (n : Int)), some (.ref Ah), x3, x4, none] ∧ H' Ah = some (.lst (scV n (scP g ((prs n).take i)))) ∧ ∀ b o, b ≠ Ah → HF b = some o → H' b = some o) ?_ ?_ ?_ ?_
    · exact ⟨_, _, rfl, unF _ _ Ad gA, fun _ _ _ e => e⟩
    · rintro i _ H' _ ⟨x3, x4, rfl, _, kp⟩
      exact kp _ _ (Ne.symm Ad) gd
    · rintro i x _ H1 H' hi ⟨x3, x4, rfl, hA, kp⟩ ⟨rfl, k, v, q, hk, rfl, hq⟩
      obtain ⟨p, hp, rfl, rfl⟩ := pd_at hk
      have pm : p ∈ prs n := List.mem_of_getElem? hp
      obtain ⟨l1, l2⟩ := mem_prs.mp pm
      have hTp : isS H' (Tt p) (g p) := by
        refine kp _ _ (fun z => ?_) (unF _ _ (fun z => ?_) (s1 _ _ (hT p pm)))
        · have := s1 _ _ (hT p pm)
          rw [z, gA] at this; cases this
        · have := s1 _ _ (hT p pm)
          rw [z, hd0] at this; cases this
      refine ⟨q, _, rfl, SqT.of hq, rfl, _, _, rfl, _, _, rfl, rfl, ?_⟩
      refine ⟨_, rfl, _, rfl, _, rfl, by show 2 ≤ sizeLine; decide, fun tp htp => ?_⟩
      have s2 := Same.new (o := .tup (prV p)) htp
      refine ⟨d, .ref (Tt p), rfl, .inr ⟨_, pk2 p, tp, .inr ⟨od, s2 _ _ (kp _ _ (Ne.symm Ad) gd)⟩, rfl, upd_same, (pd_val pm).symm⟩, ?_⟩
      refine ⟨Tt p, _, 1, _, rfl, rfl, SqT.of (s2 _ _ hTp), rfl, (g p).2, rfl, ?_⟩
      have hA2 := s2 _ _ hA
      have kp2 : ∀ b o, b ≠ Ah → HF b = some o → (upd H' tp (.tup (prV p))) b = some o := fun b o n e => s2 _ _ (kp b o n e)
      have fin : ∀ (z : Nat) (H2 : Hp), z = bhd g p → H2 Ah = some (.lst (scV n (scP g ((prs n).take i)))) → (∀ b o, b ≠ Ah → HF b = some o → H2 b = some o) → 
          (upd H2 Ah (.lst ((scV n (scP g ((prs n).take i))).set z (.int ((scP g ((prs n).take i) z : Int) + 1))))) Ah = some (.lst (scV n (scP g ((prs n).take (i + 1))))) ∧ ∀ b o, b ≠ Ah → HF b = some o → (upd H2 Ah (.lst ((scV n (scP g ((prs n).take i))).set z (.int ((scP g ((prs n).take i) z : Int) + 1))))) b = some o := by
        rintro z H2 rfl h2 k2
        have hb : bhd g p < n := by unfold bhd; split <;> omega
        rw [sc_step n g _ p hb]
        have et : (prs n).take (i + 1) = (prs n).take i ++ [p] := by rw [List.take_add_one, hp]; rfl
        rw [et]
        exact ⟨upd_same, fun b o n e => by rw [upd_ne n]; exact k2 b o n e⟩
      cases eg : (g p).2 with
      | true =>
        obtain ⟨f1, f2⟩ := fin p.1 _ (by unfold bhd; rw [if_pos eg]) hA2 kp2
        exact iteT ⟨_, rfl, _, rfl, Ah, _, (p.1 : Int), _, rfl, rfl, SqL.of hA2, atI_nat (scV_at _ (by omega)), _, _, rfl, rfl, _, rfl, _, rfl, Ah, _, (p.1 : Int), p.1, rfl, rfl, hA2, by rw [scV_len]; exact ixN_of (by omega), _, _, rfl, f1, f2⟩
      | false =>
        obtain ⟨f1, f2⟩ := fin p.2 _ (by unfold bhd; rw [eg]; rfl) hA2 kp2
        exact iteF ⟨_, rfl, _, rfl, Ah, _, (p.2 : Int), _, rfl, rfl, SqL.of hA2, atI_nat (scV_at _ (by omega)), _, _, rfl, rfl, _, rfl, _, rfl, Ah, _, (p.2 : Int), p.2, rfl, rfl, hA2, by rw [scV_len]; exact ixN_of (by omega), _, _, rfl, f1, f2⟩
    · rintro _ H' ⟨x3, x4, rfl, hA, kp⟩
      have el : (prs n).take (pdL (prs n) Tt).length = prs n := List.take_of_length_le (by unfold pdL; rw [List.length_map]; exact Nat.le_refl _)
      rw [el] at hA
      have hdf := kp _ _ (Ne.symm Ad) gd
      refine ⟨hdf, ?_⟩
      have s3 : Same H (upd H' d (.dT (pdL (prs n) Tt))) := fun b o e => by
        by_cases eb : b = d
        · subst eb
          rw [upd_same, ← hd, e]
        · rw [upd_ne eb]
          exact kp b o (ne_of_none e nA) (unF _ _ eb (s1 _ _ e))
      have hA3 : (upd H' d (.dT (pdL (prs n) Tt))) Ah = some (.lst (scV n (scP g (prs n)))) := by rw [upd_ne Ad]; exact hA
      generalize (upd H' d (.dT (pdL (prs n) Tt))) = H3 at s3 hA3 ⊢
      refine ⟨_, rfl, Ah, rfl, ⟨_, SqL.of hA3⟩, fun Dc hDc => ?_⟩
      refine lc_same walk_l (by rw [scV_len]; exact Nat.le_trans hn (by decide)) hDc (fun H' s' => SqL.of (s' _ _ hA3)) (scV n (scP g (prs n))) rfl ?_ ?_
      · rintro i x y H4 Φ Ψ hx hy s4 kf
        have e : x = y := by rw [hx] at hy; exact Option.some.inj hy
        subst e
        have hi : i < n := by
          have := (List.getElem?_eq_some_iff.mp hx).1
          rwa [scV_len] at this
        rw [scV_at _ hi] at hx
        obtain rfl := Option.some.inj hx
        refine ⟨rfl, ?_⟩
        dsimp only [tYes]
        rw [if_pos rfl]
        exact ⟨_, rfl, .inl ⟨_, rfl, kf _ fun _ _ e => e⟩⟩
      · rintro H4 s4 hD4
        have eS : scV n (scP g (prs n)) = ((List.range n).map fun x => (scP g (prs n) x : Int)).map V.int := by
          unfold scV natsV
          rw [List.map_map, List.map_map]
          rfl
        refine ⟨Dc, _, rfl, SqL.of (by rw [← eS]; exact hD4), fun ns p0 hp hs hp0 => ?_⟩
        have e5 := Same.new (o := .lst (ns.map V.int)) hp0
        refine ⟨_, rfl, _, rfl, RgOk.of_le (by decide) (by omega) (by decide) (by omega), fun L5 hL5 => ?_⟩
        rw [rgZ]
        have s6 := Same.new (o := HO.lst (((List.range n).map fun x : Nat => (x : Int)).map V.int)) hL5
        refine ⟨.list (ns.map PyData.int), .list (((List.range n).map fun x : Nat => (x : Int)).map PyData.int), .lst (SqL.of (s6 _ _ upd_same)) (dp_ints ns), .lst (SqL.of upd_same) (dp_ints _), ints_shaped ns, ints_shaped _, ?_⟩
        rw [ints_eqv]
        obtain ⟨y1, y2⟩ := line_is hp hs
        exact kk _ _ (((s3.trans s4).trans e5).trans s6) y1 y2
end
end PA

set_option maxHeartbeats 4000000
namespace PA
open PySem L2 RZ
open C8 (pss_cut tCut)
theorem pe_bmF {X : Cx} {K : PySem.W.Frag} (hK : X.K = K) {o e : PySem.Expr} {es : List PySem.Expr} {to : TE} {t : TA} {name : Str} {apos cpos : Pos} {T id : String} {r : V → List V → Hp → VK → Prop} (pa : PlainAttrs T) (sl : Slot T name id) (hty : typeOf (Value.builtin id) = pure (Value.type "method_descriptor")) (hm : MtR X id r) (ho : PE X o to) (ha : PA X (e :: es) t)
    (h1 : attributeBase o name X.env (eval o X.env) = eval o X.env := by rfl)
    (h2 : ((((backTo cpos (starEach (e :: es) X.env)).all fun x => !x.fst) && (backToKw cpos (keywordEach [] X.env)).all fun x => x.fst.isSome) && decide (((e :: es).length + ([] : List Keyword).length + if ([] : List Keyword).isEmpty = true then 0 else 1) < 30)) = true := by rfl)
    (h3 : (apos.endLine == cpos.line) = true := by rfl)
    (h4 : starEach (e :: es) X.env = (false, eval e X.env) :: starEach es X.env := by rfl)
    (h5 : ((backTo cpos (starEach es X.env)).any fun x => x.fst) = false := by rfl) : PE X ((o.Attribute name apos).Call (e :: es) [] cpos) (tBM K T r to t) := by
  subst hK
  exact pe_bm pa sl hty hm ho ha h1 h2 h3 h4 h5
theorem erase_perm {α : Type} {l : List α} {i : Nat} (h : i < l.length) : (l[i] :: l.eraseIdx i).Perm l := by
  rw [List.eraseIdx_eq_take_drop_succ]
  have e : l.take i ++ l[i] :: l.drop (i + 1) = l := by
    rw [← List.drop_eq_getElem_cons h, List.take_append_drop]
  have p : (l.take i ++ l[i] :: l.drop (i + 1)).Perm (l[i] :: (l.take i ++ l.drop (i + 1))) := List.perm_middle
  rw [e] at p
  exact p.symm
abbrev sPick : Stmt := top 50
abbrev sMixed : Stmt := top 51
theorem keep_updB {a l D : Addr} {H H' : Hp} {o : HO} (k : Keep a l H H') (hD : H D = Option.none) : Keep a l H (upd H' D o) := fun c u ca cl e => by
  rw [upd_ne (ne_of_none e hD)]
  exact k c u ca cl e
theorem keep_none {a l : Addr} {H H' : Hp} {p : Addr} (k : Keep a l H H') (pa : p ≠ a) (pl : p ≠ l) (h : H' p = Option.none) : H p = Option.none := by
  cases e : H p with
  | none => rfl
  | some o => rw [k p o pa pl e] at h; cases h
def spPick : Sp := fun vs H Q _ => ∃ (a l L : Addr) (n : Nat) (xs : List V), vs = [.ref a, .ref L] ∧ StreamAt H a l n ∧ n ≤ 20000 ∧ H L = some (.lst xs) ∧ L ≠ a ∧ L ≠ l ∧ 1 ≤ xs.length ∧ xs.length ≤ 48 ∧
  ∀ (i : Nat) (x : V) (H' : Hp), xs[i]? = some x → StreamAt H' a l (n + 1) → Keep a l H H' → Q x H'
def spMixed : Sp := fun vs H Q _ => ∃ (a l L : Addr) (n : Nat) (xs : List V), vs = [.ref a, .ref L] ∧ StreamAt H a l n ∧ n ≤ 20000 ∧ H L = some (.lst xs) ∧ xs.length ≤ 48 ∧
  ∀ (t : Addr) (ys : List V) (H' : Hp), H' t = some (.lst ys) → ys.Perm xs → t ≠ a → t ≠ l → H t = none → StreamAt H' a l (n + xs.length) → Keep a l H H' → Q (.ref t) H'
section
variable {P : Program} {w : World} {K : PySem.W.Frag} {mg : Str → Option Value} {base : Heap} {C : Addr}
theorem scPick : FnScope ["_law_stream", "_law_some"] ["_law_stream", "_law_some"] (defScope sPick) := ⟨rfl, rfl, rfl, by decide +kernel, rfl, by decide +kernel, by decide +kernel⟩
theorem ok_pick {f g : Addr} {fd gd : FuncData} (F : Fun K "_law_pick" "_law_pick" sPick f fd) (T : Txt K mg C) (D : Df K mg "_law_draw" sDraw g gd ["_law_stream", "_law_many"]) : FnOk P w K mg base CX0 2 f fd ["_law_stream", "_law_some"] spPick := by
  have G : FnOk P w K mg base CX0 1 g gd ["_law_stream", "_law_many"] spDraw := ok_draw D.F T
  refine F.ok scPick (fun vs H Q E h => ?_) (fun cdv A outer s H vs Q E hr h => ?_)
  · obtain ⟨a, l, L, n, _, rfl, _⟩ := h
    rfl
  · obtain ⟨a, l, L, n, xs, rfl, S0, hn, hL, La, Ll, h1, h48, kk⟩ := h
    refine ⟨_, pss_one (ps_ret (pe_ix ix_list (pv 1) (pe_call G hr rfl D.M D.F.kp D.B .nil pass0 (pa_cons (pv 0) (pa_cons (pe_callB call_len_seq (by rfl) T.len_ PySem.boot_len (pa_cons (pv 1) pa_nil)) pa_nil))) (fun _ _ => rfl))), ?_⟩
    refine ⟨_, rfl, _, rfl, _, rfl, L, xs, rfl, .inl (SqL.of hL), a, l, n, _, rfl, S0, by omega, by omega, sm48 (by omega) (by omega), fun r H1 r0 r1 S1 kp1 => ?_⟩
    have hi : r.toNat < xs.length := by omega
    have hx : xs[r.toNat]? = some xs[r.toNat] := List.getElem?_eq_getElem hi
    have ha := atI_nat hx
    rw [Int.toNat_of_nonneg r0] at ha
    exact ⟨L, xs, r, _, rfl, rfl, SqL.of (kp1 _ _ La Ll hL), ha, kk _ _ H1 hx S1 kp1⟩
theorem scMixed : FnScope ["_law_stream", "_law_some", "_law_left", "_law_k"] ["_law_stream", "_law_some"] (defScope sMixed) := ⟨rfl, rfl, rfl, by decide +kernel, rfl, by decide +kernel, by decide +kernel⟩
theorem ok_mixed {f g : Addr} {fd gd : FuncData} (F : Fun K "_law_mixed" "_law_mixed" sMixed f fd) (T : Txt K mg C) (D : Df K mg "_law_draw" sDraw g gd ["_law_stream", "_law_many"]) : FnOk P w K mg base CX0 2 f fd ["_law_stream", "_law_some"] spMixed := by
  have G : FnOk P w K mg base CX0 1 g gd ["_law_stream", "_law_many"] spDraw := ok_draw D.F T
  refine F.ok scMixed (fun vs H Q E h => ?_) (fun cdv A outer s H vs Q E hr h => ?_)
  · obtain ⟨a, l, L, n, _, rfl, _⟩ := h
    rfl
  · obtain ⟨a, l, L, n, xs, rfl, S0, hn, hL, h48, kk⟩ := h
    refine ⟨_, pss_cons (ps_set (i := 2) scMixed.nd rfl (Or.inr rfl) (pe_callTy call_list_of (by rfl) T.list_ boot_list' (pa_cons (pv 1) pa_nil)))
      (pss_one (ps_ret (pe_lc (own := [("_law_k", 3)]) (g := gName 3) (tt := tYes) (by rfl) scMixed.nd (pi_range1 (by rfl) T.range_ (pa_cons (pe_callB call_len_seq (by rfl) T.len_ PySem.boot_len (pa_cons (pv 2) pa_nil)) pa_nil)) (blkOk_by (N := ["_law_stream", "_law_some", "_law_left", "_law_k"]) (sc := defScope sMixed) (by decide +kernel))
          (fun _ _ _ _ _ => pg_name (i := 3) scMixed.nd rfl (Or.inl rfl)) (fun _ _ _ _ _ => pts_nil)
          (fun _ _ _ _ _ => pe_bmF (K := K) rfl PySem.F.plainAttrs_list PySem.F.slot_list_pop PySem.F.type_list_pop mt_popAt (pv 2) (pa_cons (pe_call G hr rfl D.M D.F.kp D.B .nil pass0 (pa_cons (pv 0) (pa_cons (pe_callB (call_lenK (K := K) rfl) (by rfl) T.len_ PySem.boot_len (pa_cons (pv 2) pa_nil)) pa_nil))) pa_nil))))), ?_⟩
    refine ⟨_, rfl, L, xs, rfl, .inl (SqL.of hL), fun W hW => ?_⟩
    have sW := Same.new (o := .lst xs) hW
    obtain ⟨Wa, Wl⟩ := S0.ne hW
    refine ⟨_, rfl, W, _, rfl, .inl (SqL.of upd_same), _, rfl, by omega, by omega, fun Dd hD => ?_⟩
    have hD0 : H Dd = none := by
      cases e : H Dd with
      | none => rfl
      | some o => have := sW _ _ e; rw [hD] at this; cases this
    obtain ⟨Da, Dl⟩ := S0.ne hD0
    have neWD : W ≠ Dd := fun e => by rw [← e, upd_same] at hD; cases hD
    have S1 := (S0.same sW).same (Same.new (o := .lst []) hD)
    refine lc_range (n := xs.length) (fun i H' => StreamAt H' a l (n + i) ∧ Keep a l H H' ∧ ∃ left acc, H' W = some (.lst left) ∧ H' Dd = some (.lst acc) ∧ acc.length = i ∧ left.length + i = xs.length ∧ (acc ++ left).Perm xs) ?_ ?_ ?_
    · exact ⟨S1, keep_updB (keep_updB (Keep.refl _ _ _) hW) hD0, xs, [], by rw [upd_ne neWD]; exact upd_same, upd_same, rfl, rfl, List.Perm.refl _⟩
    · rintro i H2 hi ⟨S2, k2, left, acc, hw, hd, hl, hll, hp⟩
      refine ⟨rfl, ?_⟩
      dsimp only [tYes]
      rw [if_pos rfl]
      refine ⟨_, rfl, .inl ⟨rfl, _, SqL.of hw⟩, _, rfl, _, rfl, W, left, rfl, .inl (SqL.of hw), a, l, _, _, rfl, S2, by omega, by omega, sm48 (by omega) (by omega), fun r H3 r0 r1 S3 k3 => ?_⟩
      have hw3 := k3 _ _ Wa Wl hw
      have hd3 := k3 _ _ Da Dl hd
      have hlt : r.toNat < left.length := by omega
      have hx : left[r.toNat]? = some left[r.toNat] := List.getElem?_eq_getElem hlt
      have hsi : seqIndex? r left.length = some r.toNat := by
        unfold seqIndex?
        have e : ¬ r < 0 := by omega
        have e2 : r < (left.length : Int) := by omega
        simp [e, r0, e2]
      refine ⟨W, left, r, r.toNat, left[r.toNat], rfl, rfl, hw3, by omega, by omega, hsi, hx, ?_⟩
      refine ⟨acc, by rw [upd_ne neWD.symm]; exact hd3, Nat.lt_of_lt_of_le (by omega : acc.length < 49) (by decide), ?_⟩
      have hw4 : (upd H3 W (.lst (left.eraseIdx r.toNat))) Dd = some (.lst acc) := by rw [upd_ne neWD.symm]; exact hd3
      refine ⟨(S3.lst hw3 Wa Wl).lst hw4 Da Dl |>.at_ (by omega), keep_updB (keep_updB (k2.trans k3) hW) hD0, left.eraseIdx r.toNat, acc ++ [left[r.toNat]], by rw [upd_ne neWD]; exact upd_same, upd_same, by rw [List.length_append, hl]; rfl, by rw [List.length_eraseIdx_of_lt hlt]; omega, ?_⟩
      refine List.Perm.trans ?_ hp
      rw [List.append_assoc]
      exact List.Perm.append_left _ (erase_perm hlt)
    · rintro H2 ⟨S2, k2, left, acc, hw, hd, hl, hll, hp⟩
      have : left = [] := List.length_eq_zero_iff.mp (by omega)
      subst this
      rw [List.append_nil] at hp
      exact kk Dd acc H2 hd hp Da Dl hD0 S2 k2
end
end PA

set_option maxHeartbeats 8000000
namespace PA
open PySem L2 RZ
open C8 (pss_cut tCut)
abbrev sAfter : Stmt := top 20
abbrev sCalled : Stmt := top 21
def calR (r : Rn) (b : Bool) : Nat × Bool := if b = true then (r.2.2.1, r.2.2.2) else (r.1, !r.2.1)
def spCalled : Sp := fun vs H Q _ => ∃ (c : Addr) (r : Rn) (b : Bool), vs = [.ref c, .bl b] ∧ isT H c (rz r) ∧ ∀ t H', Same H H' → H' t = some (.tup [.int ((calR r b).1 : Int), .bl (calR r b).2]) → Q (.ref t) H'
/-- PAIRS_OF_PLACES -/
structure TxtP (mg : Str → Option Value) (K : PySem.W.Frag) : Prop where
  ex : ∃ d e0 e1 e2, mg "PAIRS_OF_PLACES" = some (.ref d) ∧ (∀ H, SqT K H d [.ref e0, .ref e1, .ref e2]) ∧ (∀ H, SqT K H e0 [.int 0, .int 1, .int 2]) ∧ (∀ H, SqT K H e1 [.int 0, .int 2, .int 1]) ∧ (∀ H, SqT K H e2 [.int 1, .int 2, .int 0])
abbrev q3V (q : Nat × Nat × Nat) : List V := [.int (q.1 : Int), .int (q.2.1 : Int), .int (q.2.2 : Int)]
/-- what `_after` gives: None, or a place and states -/
def AftV (H : Hp) (o : Option (Nat × Nat × Nat × Nat)) (v : V) : Prop := match o with
  | none => v = .non
  | some (k, q) => ∃ t u, v = .ref t ∧ H t = some (.tup [.int (k : Int), .ref u]) ∧ H u = some (.tup (q3V q))
def spAfter : Sp := fun vs H Q _ => ∃ (R S : Addr) (refs : List V) (A : List Rn) (q : Nat × Nat × Nat) (k : Nat), vs = [.ref R, .ref S, .int (k : Int)] ∧ H R = some (.tup refs) ∧ Each H isT refs (A.map rz) ∧ H S = some (.tup (q3V q)) ∧ k < 3 ∧ q.1 < A.length ∧ q.2.1 < A.length ∧ q.2.2 < A.length ∧
  ∀ v H', Same H H' → AftV H' (RG3.aft A q k) v → Q v H'
theorem fit_eq (a b : Nat × Bool) (o : Nat) : RG3.fitQ a b o = if (a.2 && b.2) = true then some (0, a.1, b.1, o) else if b.2 = true then some (1, a.1, o, b.1) else if a.2 = true then none else some (2, o, a.1, b.1) := rfl
section
variable {P : Program} {w : World} {K : PySem.W.Frag} {mg : Str → Option Value} {base : Heap}
theorem scCalled : FnScope ["row", "behind", "next_ahead", "falls", "next_behind", "goes"] ["row", "behind"] (defScope sCalled) := ⟨rfl, rfl, rfl, by decide +kernel, rfl, by decide +kernel, by decide +kernel⟩
theorem ok_called {f : Addr} {fd : FuncData} (F : Fun K "_called" "_called" sCalled f fd) : FnOk P w K mg base CX0 1 f fd ["row", "behind"] spCalled := by
  refine F.ok scCalled (fun vs H Q E h => ?_) (fun cdv A0 outer s H vs Q E hr h => ?_)
  · obtain ⟨c, _, _, rfl, _⟩ := h
    rfl
  · obtain ⟨c, ⟨ra, rb, rc, rd⟩, b, rfl, hc, kk⟩ := h
    refine ⟨_, pss_cons (ps_asg (pv 0) (pg_tup rfl (pgs_cons (pg_name (i := 2) scCalled.nd rfl (Or.inl rfl)) (pgs_cons (pg_name (i := 3) scCalled.nd rfl (Or.inl rfl)) (pgs_cons (pg_name (i := 4) scCalled.nd rfl (Or.inl rfl)) (pgs_cons (pg_name (i := 5) scCalled.nd rfl (Or.inl rfl)) pgs_nil))))))
      (pss_cons (ps_if (pt_val (pv 1)) (pss_one (ps_ret (pe_tup (pa_cons (pv 4) (pa_cons (pv 5) pa_nil))))) pss_nil)
      (pss_one (ps_ret (pe_tup (pa_cons (pv 2) (pa_cons (pe_not (pv 3)) pa_nil)))))), ?_⟩
    refine ⟨_, rfl, c, _, rfl, SqT.of hc, rfl, _, _, rfl, _, _, rfl, _, _, rfl, _, _, rfl, rfl, ?_⟩
    cases b with
    | true => exact ⟨_, rfl, true, rfl, iteT ⟨_, rfl, _, rfl, by show 2 ≤ sizeLine; decide, fun t ht => kk t _ (Same.new ht) upd_same⟩⟩
    | false => exact ⟨_, rfl, false, rfl, iteF ⟨_, rfl, _, rfl, _, rfl, by show 2 ≤ sizeLine; decide, fun t ht => kk t _ (Same.new ht) upd_same⟩⟩
theorem scAfter : FnScope ["rows", "states", "place", "with_first", "with_second", "apart", "first", "ahead_of_first", "second", "ahead_of_second", "others"] ["rows", "states", "place"] (defScope sAfter) := ⟨rfl, rfl, rfl, by decide +kernel, rfl, by decide +kernel, by decide +kernel⟩
theorem ok_after {f g : Addr} {fd gd : FuncData} (F : Fun K "_after" "_after" sAfter f fd) (TP : TxtP mg K) (D : Df K mg "_called" sCalled g gd ["row", "behind"]) : FnOk P w K mg base CX0 2 f fd ["rows", "states", "place"] spAfter := by
  have G : FnOk P w K mg base CX0 1 g gd ["row", "behind"] spCalled := ok_called D.F
  obtain ⟨pd, p0, p1, p2, hpd, hd, h0, h1, h2⟩ := TP.ex
  refine F.ok scAfter (fun vs H Q E h => ?_) (fun cdv A0 outer s H vs Q E hr h => ?_)
  · obtain ⟨R, S, _, _, _, k, rfl, _⟩ := h
    rfl
  · obtain ⟨R, S, refs, A, ⟨q0, q1, q2⟩, k, rfl, hR, hE, hS, hk, l0, l1, l2, kk⟩ := h
    dsimp only at l0 l1 l2
    refine ⟨_, pss_cons (ps_asg (pe_ix ix_tup (pe_glob (v := .ref pd) rfl hpd rfl) (pv 2) (fun _ _ => rfl)) (pg_tup rfl (pgs_cons (pg_name (i := 3) scAfter.nd rfl (Or.inl rfl)) (pgs_cons (pg_name (i := 4) scAfter.nd rfl (Or.inl rfl)) (pgs_cons (pg_name (i := 5) scAfter.nd rfl (Or.inl rfl)) pgs_nil)))))
      (pss_cons (ps_asg (pe_call G hr rfl D.M D.F.kp D.B .nil pass0 (pa_cons (pe_ix ix_tup (pv 0) (pe_ix ix_tup (pv 1) (pv 3) (fun _ _ => rfl)) (fun _ _ => rfl)) (pa_cons (pe_cmpR op_gt (pv 2) pe_int (nomark _)) pa_nil))) (pg_tup rfl (pgs_cons (pg_name (i := 6) scAfter.nd rfl (Or.inl rfl)) (pgs_cons (pg_name (i := 7) scAfter.nd rfl (Or.inl rfl)) pgs_nil))))
      (pss_cons (ps_asg (pe_call G hr rfl D.M D.F.kp D.B .nil pass0 (pa_cons (pe_ix ix_tup (pv 0) (pe_ix ix_tup (pv 1) (pv 4) (fun _ _ => rfl)) (fun _ _ => rfl)) (pa_cons (pe_cmpR op_gt (pv 2) pe_int (nomark _)) pa_nil))) (pg_tup rfl (pgs_cons (pg_name (i := 8) scAfter.nd rfl (Or.inl rfl)) (pgs_cons (pg_name (i := 9) scAfter.nd rfl (Or.inl rfl)) pgs_nil))))
      (pss_cons (ps_set (i := 10) scAfter.nd rfl (Or.inl rfl) (pe_ix ix_tup (pv 1) (pv 5) (fun _ _ => rfl)))
      (pss_cons (ps_if (PW.pt (pw_and (pt_val (pv 7)) (pw_and1 (pt_val (pv 9))))) (pss_one (ps_ret (pe_tup (pa_cons pe_int (pa_cons (pe_tup (pa_cons (pv 6) (pa_cons (pv 8) (pa_cons (pv 10) pa_nil)))) pa_nil))))) pss_nil)
      (pss_cons (ps_if (pt_val (pv 9)) (pss_one (ps_ret (pe_tup (pa_cons pe_int (pa_cons (pe_tup (pa_cons (pv 6) (pa_cons (pv 10) (pa_cons (pv 8) pa_nil)))) pa_nil))))) pss_nil)
      (pss_cons (ps_if (pt_val (pv 7)) (pss_one (ps_ret pe_non)) pss_nil)
      (pss_one (ps_ret (pe_tup (pa_cons pe_int (pa_cons (pe_tup (pa_cons (pv 10) (pa_cons (pv 6) (pa_cons (pv 8) pa_nil)))) pa_nil))))))))))), ?_⟩
    have row : ∀ {i : Nat} {H' : Hp}, Same H H' → i < A.length → ∃ c, atI refs (i : Int) = some (.ref c) ∧ isT H' c (rz (RG3.rw_ A i)) := fun {i H'} s' hi => by
      have hrl : refs.length = A.length := by have := hE.1; rwa [List.length_map] at this
      have hx := List.getElem?_eq_getElem (l := refs) (i := i) (by omega)
      obtain ⟨c, hc, q⟩ := hE.2 i _ (rz (RG3.rw_ A i)) hx (by rw [List.getElem?_map, RG3.row_at hi]; rfl)
      rw [hc] at hx
      exact ⟨c, atI_nat hx, s' _ _ q⟩
    have hkk : k = 0 ∨ k = 1 ∨ k = 2 := by omega
    rcases hkk with rfl | rfl | rfl
    · refine ⟨_, rfl, pd, _, 0, .ref p0, rfl, rfl, hd _, rfl, p0, _, rfl, h0 _, rfl, _, _, rfl, _, _, rfl, _, _, rfl, rfl, ?_⟩
      obtain ⟨c1, hc1, r1⟩ := row (i := q0) (H' := H) (fun _ _ e => e) l0
      refine ⟨_, rfl, _, rfl, _, rfl, S, _, 0, .int (q0 : Int), rfl, rfl, SqT.of hS, rfl, R, _, (q0 : Int), .ref c1, rfl, rfl, SqT.of hR, hc1, _, rfl, _, _, rfl, rfl, c1, RG3.rw_ A q0, false, rfl, r1, fun t1 H1 s1 ht1 => ?_⟩
      refine ⟨t1, _, rfl, SqT.of ht1, rfl, _, _, rfl, _, _, rfl, rfl, ?_⟩
      obtain ⟨c2, hc2, r2⟩ := row (i := q1) s1 l1
      refine ⟨_, rfl, _, rfl, _, rfl, S, _, 1, .int (q1 : Int), rfl, rfl, SqT.of (s1 _ _ hS), rfl, R, _, (q1 : Int), .ref c2, rfl, rfl, SqT.of (s1 _ _ hR), hc2, _, rfl, _, _, rfl, rfl, c2, RG3.rw_ A q1, false, rfl, r2, fun t2 H2 s2 ht2 => ?_⟩
      refine ⟨t2, _, rfl, SqT.of ht2, rfl, _, _, rfl, _, _, rfl, rfl, ?_⟩
      refine ⟨_, rfl, _, rfl, S, _, 2, .int (q2 : Int), rfl, rfl, SqT.of (s2 _ _ (s1 _ _ hS)), rfl, ?_⟩
      have ea : RG3.aft A (q0, q1, q2) 0 = RG3.fitQ (calR (RG3.rw_ A q0) false) (calR (RG3.rw_ A q1) false) q2 := rfl
      rw [ea] at kk
      have s12 := s1.trans s2
      generalize calR (RG3.rw_ A q0) false = u at kk ⊢
      generalize calR (RG3.rw_ A q1) false = v at kk ⊢
      obtain ⟨x, f⟩ := u
      obtain ⟨y, g⟩ := v
      cases f with
      | true =>
        cases g with
        | true => exact ⟨_, rfl, true, rfl, iteT ⟨_, rfl, true, rfl, iteT ⟨_, rfl, _, rfl, _, rfl, by show 3 ≤ sizeLine; decide, fun uu hu => ⟨by show 2 ≤ sizeLine; decide, fun t ht => kk (.ref t) _ ((s12.trans (Same.new hu)).trans (Same.new ht)) ⟨t, uu, rfl, upd_same, Same.new ht _ _ upd_same⟩⟩⟩⟩⟩
        | false => exact ⟨_, rfl, true, rfl, iteT ⟨_, rfl, false, rfl, iteF ⟨_, rfl, false, rfl, iteF ⟨_, rfl, true, rfl, iteT (kk .non _ s12 rfl)⟩⟩⟩⟩
      | false =>
        cases g with
        | true => exact ⟨_, rfl, false, rfl, iteF ⟨_, rfl, true, rfl, iteT ⟨_, rfl, _, rfl, _, rfl, by show 3 ≤ sizeLine; decide, fun uu hu => ⟨by show 2 ≤ sizeLine; decide, fun t ht => kk (.ref t) _ ((s12.trans (Same.new hu)).trans (Same.new ht)) ⟨t, uu, rfl, upd_same, Same.new ht _ _ upd_same⟩⟩⟩⟩⟩
        | false => exact ⟨_, rfl, false, rfl, iteF ⟨_, rfl, false, rfl, iteF ⟨_, rfl, false, rfl, iteF ⟨_, rfl, _, rfl, _, rfl, by show 3 ≤ sizeLine; decide, fun uu hu => ⟨by show 2 ≤ sizeLine; decide, fun t ht => kk (.ref t) _ ((s12.trans (Same.new hu)).trans (Same.new ht)) ⟨t, uu, rfl, upd_same, Same.new ht _ _ upd_same⟩⟩⟩⟩⟩⟩
    · refine ⟨_, rfl, pd, _, 1, .ref p1, rfl, rfl, hd _, rfl, p1, _, rfl, h1 _, rfl, _, _, rfl, _, _, rfl, _, _, rfl, rfl, ?_⟩
      obtain ⟨c1, hc1, r1⟩ := row (i := q0) (H' := H) (fun _ _ e => e) l0
      refine ⟨_, rfl, _, rfl, _, rfl, S, _, 0, .int (q0 : Int), rfl, rfl, SqT.of hS, rfl, R, _, (q0 : Int), .ref c1, rfl, rfl, SqT.of hR, hc1, _, rfl, _, _, rfl, rfl, c1, RG3.rw_ A q0, true, rfl, r1, fun t1 H1 s1 ht1 => ?_⟩
      refine ⟨t1, _, rfl, SqT.of ht1, rfl, _, _, rfl, _, _, rfl, rfl, ?_⟩
      obtain ⟨c2, hc2, r2⟩ := row (i := q2) s1 l2
      refine ⟨_, rfl, _, rfl, _, rfl, S, _, 2, .int (q2 : Int), rfl, rfl, SqT.of (s1 _ _ hS), rfl, R, _, (q2 : Int), .ref c2, rfl, rfl, SqT.of (s1 _ _ hR), hc2, _, rfl, _, _, rfl, rfl, c2, RG3.rw_ A q2, false, rfl, r2, fun t2 H2 s2 ht2 => ?_⟩
      refine ⟨t2, _, rfl, SqT.of ht2, rfl, _, _, rfl, _, _, rfl, rfl, ?_⟩
      refine ⟨_, rfl, _, rfl, S, _, 1, .int (q1 : Int), rfl, rfl, SqT.of (s2 _ _ (s1 _ _ hS)), rfl, ?_⟩
      have ea : RG3.aft A (q0, q1, q2) 1 = RG3.fitQ (calR (RG3.rw_ A q0) true) (calR (RG3.rw_ A q2) false) q1 := rfl
      rw [ea] at kk
      have s12 := s1.trans s2
      generalize calR (RG3.rw_ A q0) true = u at kk ⊢
      generalize calR (RG3.rw_ A q2) false = v at kk ⊢
      obtain ⟨x, f⟩ := u
      obtain ⟨y, g⟩ := v
      cases f with
      | true =>
        cases g with
        | true => exact ⟨_, rfl, true, rfl, iteT ⟨_, rfl, true, rfl, iteT ⟨_, rfl, _, rfl, _, rfl, by show 3 ≤ sizeLine; decide, fun uu hu => ⟨by show 2 ≤ sizeLine; decide, fun t ht => kk (.ref t) _ ((s12.trans (Same.new hu)).trans (Same.new ht)) ⟨t, uu, rfl, upd_same, Same.new ht _ _ upd_same⟩⟩⟩⟩⟩
        | false => exact ⟨_, rfl, true, rfl, iteT ⟨_, rfl, false, rfl, iteF ⟨_, rfl, false, rfl, iteF ⟨_, rfl, true, rfl, iteT (kk .non _ s12 rfl)⟩⟩⟩⟩
      | false =>
        cases g with
        | true => exact ⟨_, rfl, false, rfl, iteF ⟨_, rfl, true, rfl, iteT ⟨_, rfl, _, rfl, _, rfl, by show 3 ≤ sizeLine; decide, fun uu hu => ⟨by show 2 ≤ sizeLine; decide, fun t ht => kk (.ref t) _ ((s12.trans (Same.new hu)).trans (Same.new ht)) ⟨t, uu, rfl, upd_same, Same.new ht _ _ upd_same⟩⟩⟩⟩⟩
        | false => exact ⟨_, rfl, false, rfl, iteF ⟨_, rfl, false, rfl, iteF ⟨_, rfl, false, rfl, iteF ⟨_, rfl, _, rfl, _, rfl, by show 3 ≤ sizeLine; decide, fun uu hu => ⟨by show 2 ≤ sizeLine; decide, fun t ht => kk (.ref t) _ ((s12.trans (Same.new hu)).trans (Same.new ht)) ⟨t, uu, rfl, upd_same, Same.new ht _ _ upd_same⟩⟩⟩⟩⟩⟩
    · refine ⟨_, rfl, pd, _, 2, .ref p2, rfl, rfl, hd _, rfl, p2, _, rfl, h2 _, rfl, _, _, rfl, _, _, rfl, _, _, rfl, rfl, ?_⟩
      obtain ⟨c1, hc1, r1⟩ := row (i := q1) (H' := H) (fun _ _ e => e) l1
      refine ⟨_, rfl, _, rfl, _, rfl, S, _, 1, .int (q1 : Int), rfl, rfl, SqT.of hS, rfl, R, _, (q1 : Int), .ref c1, rfl, rfl, SqT.of hR, hc1, _, rfl, _, _, rfl, rfl, c1, RG3.rw_ A q1, true, rfl, r1, fun t1 H1 s1 ht1 => ?_⟩
      refine ⟨t1, _, rfl, SqT.of ht1, rfl, _, _, rfl, _, _, rfl, rfl, ?_⟩
      obtain ⟨c2, hc2, r2⟩ := row (i := q2) s1 l2
      refine ⟨_, rfl, _, rfl, _, rfl, S, _, 2, .int (q2 : Int), rfl, rfl, SqT.of (s1 _ _ hS), rfl, R, _, (q2 : Int), .ref c2, rfl, rfl, SqT.of (s1 _ _ hR), hc2, _, rfl, _, _, rfl, rfl, c2, RG3.rw_ A q2, true, rfl, r2, fun t2 H2 s2 ht2 => ?_⟩
      refine ⟨t2, _, rfl, SqT.of ht2, rfl, _, _, rfl, _, _, rfl, rfl, ?_⟩
      refine ⟨_, rfl, _, rfl, S, _, 0, .int (q0 : Int), rfl, rfl, SqT.of (s2 _ _ (s1 _ _ hS)), rfl, ?_⟩
      have ea : RG3.aft A (q0, q1, q2) 2 = RG3.fitQ (calR (RG3.rw_ A q1) true) (calR (RG3.rw_ A q2) true) q0 := rfl
      rw [ea] at kk
      have s12 := s1.trans s2
      generalize calR (RG3.rw_ A q1) true = u at kk ⊢
      generalize calR (RG3.rw_ A q2) true = v at kk ⊢
      obtain ⟨x, f⟩ := u
      obtain ⟨y, g⟩ := v
      cases f with
      | true =>
        cases g with
        | true => exact ⟨_, rfl, true, rfl, iteT ⟨_, rfl, true, rfl, iteT ⟨_, rfl, _, rfl, _, rfl, by show 3 ≤ sizeLine; decide, fun uu hu => ⟨by show 2 ≤ sizeLine; decide, fun t ht => kk (.ref t) _ ((s12.trans (Same.new hu)).trans (Same.new ht)) ⟨t, uu, rfl, upd_same, Same.new ht _ _ upd_same⟩⟩⟩⟩⟩
        | false => exact ⟨_, rfl, true, rfl, iteT ⟨_, rfl, false, rfl, iteF ⟨_, rfl, false, rfl, iteF ⟨_, rfl, true, rfl, iteT (kk .non _ s12 rfl)⟩⟩⟩⟩
      | false =>
        cases g with
        | true => exact ⟨_, rfl, false, rfl, iteF ⟨_, rfl, true, rfl, iteT ⟨_, rfl, _, rfl, _, rfl, by show 3 ≤ sizeLine; decide, fun uu hu => ⟨by show 2 ≤ sizeLine; decide, fun t ht => kk (.ref t) _ ((s12.trans (Same.new hu)).trans (Same.new ht)) ⟨t, uu, rfl, upd_same, Same.new ht _ _ upd_same⟩⟩⟩⟩⟩
        | false => exact ⟨_, rfl, false, rfl, iteF ⟨_, rfl, false, rfl, iteF ⟨_, rfl, false, rfl, iteF ⟨_, rfl, _, rfl, _, rfl, by show 3 ≤ sizeLine; decide, fun uu hu => ⟨by show 2 ≤ sizeLine; decide, fun t ht => kk (.ref t) _ ((s12.trans (Same.new hu)).trans (Same.new ht)) ⟨t, uu, rfl, upd_same, Same.new ht _ _ upd_same⟩⟩⟩⟩⟩⟩
end
end PA

/-! index of a tuple of flat values -/
namespace PA
open PySem PySem.Spec PyProof.Rows L2
open AutoSeq1 (wpAny_loadPart')
open MeetsSeq MeetsSeq2 MeetsSeq3 SeqRoads2
section
variable {X : Cx}
def rIndexT (K : PySem.W.Frag) : V → List V → Hp → VK → Prop := fun x xs H Q => ∃ (a : Addr) (ys : List V) (y : V) (j : Nat) (z : V), x = V.ref a ∧ xs = [y] ∧ SqT K H a ys ∧ flatV y = true ∧ ys.all flatV = true ∧ ys[j]? = some z ∧ eqV z y = true ∧
  (∀ (m : Nat) (z' : V), m < j → ys[m]? = some z' → eqV z' y = false) ∧ Q (.int (j : Nat)) H
theorem mt_indexT : MtR X "tuple.index" (rIndexT X.K) := by
  intro pins s σ H x xs v us Q I rx rxs h
  obtain ⟨a, ys, y, j, z, rfl, rfl, hs, fy, fys, hz, hzj, hno, q⟩ := h
  cases rx
  cases rxs with
  | cons ry rt =>
    rename_i uy ut
    cases rt
    obtain ⟨its, rv, pl, hzz⟩ := I.tuple hs
    obtain ⟨⟨cls, dd, dt, sl⟩, ho, hc, n, hd⟩ := pl
    simp only at hc hd
    subst hc
    subst hd
    obtain ⟨u, hu, ru⟩ := rv.get hz
    obtain ⟨hjl, hje⟩ := List.getElem?_eq_some_iff.mp hu
    have hvl := rv.length
    have hj : j < its.toArray.size := by simpa using hjl
    refine call_meets PySem.F.slot_tuple_index ⟨_, ho, rfl⟩ PySem.F.entry_tuple_index (PySem.F.args_tuple_index_2 _ _)
      (TI.tuple_indexAt a its.toArray n dd sl uy (eqU y) j hj ?_ ?_) ⟨ho, fun u' hu' => mem_eqAt ry fy rv fys u' (by simpa using hu'), ?_⟩
    · have e1 : its.toArray[j] = u := by simpa using hje
      rw [e1, eqU_of ru (flat_at fys hz)]
      exact hzj
    · intro m hm hmj
      have hml : m < its.length := by simpa using hm
      have hmy : m < ys.length := by omega
      have hy' : ys[m]? = some ys[m] := List.getElem?_eq_getElem hmy
      obtain ⟨u2, hu2, ru2⟩ := rv.get hy'
      obtain ⟨_, hme⟩ := List.getElem?_eq_some_iff.mp hu2
      have e1 : its.toArray[m] = u2 := by simpa using hme
      rw [e1, eqU_of ru2 (flat_at fys hy')]
      exact hno m _ hmj hy'
    · exact ⟨.int (j : Nat), H, I.tok _, ⟨_, rfl⟩, q⟩
/-- a tuple whose object has no dict -/
def TN (H : Hp) (a : Addr) (xs : List V) : Prop := ∃ o : Obj, H a = some (.frz o (.tup xs)) ∧ o.cls = .type "tuple" ∧ o.dict = none
theorem TN.sq {K : PySem.W.Frag} {H : Hp} {a : Addr} {xs : List V} (h : TN H a xs) : SqT K H a xs := let ⟨o, e, _⟩ := h; .inl (.inr ⟨o, e⟩)
theorem TN.same {H H' : Hp} {a : Addr} {xs : List V} (h : TN H a xs) (s : ∀ c o, H c = some o → H' c = some o) : TN H' a xs := let ⟨o, e, z⟩ := h; ⟨o, s _ _ e, z⟩
theorem pe_tupN {es : List Expr} {t : TA} {pos : Pos} {x1} (h : PA X es t) : PE X (.Tuple es x1 pos) (fun σ H Q => t σ H fun xs H1 => xs.length ≤ sizeLine ∧ ∀ p o, H1 p = none → o.cls = .type "tuple" → o.dict = none → Q (.ref p) (upd H1 p (.frz o (.tup xs)))) := by
  refine ⟨fun pins s σ H Q I hq => ?_⟩
  refine wpAny_Tuple_spliced (thn (h.run pos pins s σ H _ I hq) fun us s1 ⟨xs, H1, I1, r, z, q⟩ => ⟨by rw [← r.length]; exact z, ?_⟩)
  have hf : H1 s1.heap.objs.size = none := I1.hok.fresh (Nat.le_refl _)
  refine ⟨.ref s1.heap.objs.size, upd H1 s1.heap.objs.size (.frz { cls := .type "tuple", data := .seq us.toArray } (.tup xs)), I1.laid (t' := s1.toks) (fun b u e => Heap.get?_push_of_some _ e) (Nat.le_refl _) ?_, rfl, q _ _ hf rfl rfl⟩
  exact ⟨Heap.get?_push_size _ rfl, z, us, r, ⟨_, Heap.get?_push_size _ rfl, rfl, _, rfl⟩⟩
theorem call_tupleN {K : PySem.W.Frag} (hK : X.K = K) : CallR X (.type "tuple") (fun xs H Q => ∃ p ys, xs = [.ref p] ∧ SqL K H p ys ∧ ∀ l o, H l = none → o.cls = .type "tuple" → o.dict = none → Q (.ref l) (upd H l (.frz o (.tup ys)))) := by
  subst hK
  intro pins s σ H xs us Q I r h
  obtain ⟨p, ys, rfl, hq, q⟩ := h
  obtain ⟨u, rfl, rx⟩ := vals1 r
  cases rx
  obtain ⟨its, r', pl, hz⟩ := I.list hq
  have hlen := r'.length
  refine call_tuple_list pl.isList (fun h' kp => ?_) (by simp only [List.size_toArray] <;> omega)
  have I1 : Inv X pins σ H { s with heap := h' } := I.kept (t' := s.toks) kp
  have hg : (h'.push { cls := .type "tuple", data := .seq its.toArray }).get? h'.objs.size = some { cls := .type "tuple", data := .seq its.toArray } := Heap.get?_push_size _ rfl
  have I2 : Inv X pins σ (upd H h'.objs.size (.frz { cls := .type "tuple", data := .seq its.toArray } (.tup ys))) { s with heap := h'.push { cls := .type "tuple", data := .seq its.toArray } } :=
    I1.laid (t' := s.toks) (fun b o e => Heap.get?_push_of_some _ e) (Nat.le_refl _) (show ObjOk X.prog X.w _ _ _ (.frz _ (.tup ys)) from ⟨hg, hz, its, r', IsTup.new _ _⟩)
  exact ⟨.ref h'.objs.size, _, I2, rfl, q _ _ (I1.hok.fresh (Nat.le_refl _)) rfl rfl⟩
def tBMN (r : V → List V → Hp → VK → Prop) (to : TE) (t : TA) : TE := fun σ H Q => to σ H fun x H1 => (∃ p xs, x = .ref p ∧ TN H1 p xs) ∧ t σ H1 fun xs H2 => r x xs H2 Q
/-- a method of such a tuple -/
theorem pe_bmN {o e : Expr} {es : List Expr} {to : TE} {t : TA} {name : Str} {apos cpos : Pos} {id : String} {r : V → List V → Hp → VK → Prop} (slot : Slot "tuple" name id) (hty : typeOf (.builtin id) = pure (.type "method_descriptor")) (hm : MtR X id r) (ho : PE X o to) (ha : PA X (e :: es) t)
    (hbase : attributeBase o name X.env (eval o X.env) = eval o X.env := by rfl)
    (hfew : ((backTo cpos (starEach (e :: es) X.env)).all (fun x => !x.1) && (backToKw cpos (keywordEach [] X.env)).all (fun x => x.1.isSome)
      && decide ((e :: es).length + ([] : List Keyword).length + (if ([] : List Keyword).isEmpty then 0 else 1) < 30)) = true := by rfl)
    (hline : (apos.endLine == cpos.line) = true := by rfl) (hs : starEach (e :: es) X.env = (false, eval e X.env) :: starEach es X.env := by rfl) (hplain : (backTo cpos (starEach es X.env)).any (·.1) = false := by rfl) :
    PE X (.Call (.Attribute o name apos) (e :: es) [] cpos) (tBMN r to t) := by
  refine ⟨fun pins s σ H Q I h => ?_⟩
  refine wpAny_Call_method_late hbase hfew hline rfl (thn (ho.run pins s σ H _ I h) fun v s1 ⟨x, H1, I1, r1, ty, q1⟩ => ?_)
  obtain ⟨h1, h2⟩ : s1.TypeIs v "tuple" ∧ ∀ a, v = .ref a → ∃ ob, s1.heap.get? a = some ob ∧ ob.dict = none := by
    obtain ⟨p, xs, rfl, ob, hp, hc, hd⟩ := ty
    cases r1
    obtain ⟨hg, _⟩ := I1.hok p _ hp
    refine ⟨⟨ob, hg, hc⟩, fun a e => ?_⟩
    cases e
    exact ⟨ob, hg, hd⟩
  refine ⟨"tuple", id, PySem.F.plainAttrs_tuple, slot, hty, h1, h2, ?_⟩
  have hA := ha.run cpos pins s1 σ H1 _ I1 q1
  rw [hs] at hA ⊢
  refine Calls.callWith_builtin (by show (false || (backTo cpos (starEach es X.env)).any (·.1)) = false; rw [hplain] <;> rfl) (Calls.evalArgs_plain ?_)
  exact thn hA fun us s2 ⟨vs, H2, I2, r2, q2⟩ => hm pins s2 σ H2 x vs v us Q I2 r1 r2 q2
end
end PA

set_option maxHeartbeats 8000000
namespace PA
open PySem L2 RZ
open C8 (pss_cut tCut)
abbrev sMovedC : Stmt := top 22
def spMovedC (K : PySem.W.Frag) : Sp := fun vs H Q _ => ∃ (C : Addr) (l : List Nat) (c k : Nat), vs = [.ref C, .int (c : Int), .int (k : Int)] ∧ SqT K H C (natsV l) ∧ l.length ≤ 3 ∧ k ≤ (l.filter fun x => decide (x ≠ c)).length ∧ ∀ t H', Same H H' → TN H' t (natsV (RG3.movedC l c k)) → Q (.ref t) H'
theorem decNe {x c : Nat} : (!decide (V.int (x : Int) = V.int (c : Int))) = decide (x ≠ c) := by
  by_cases h : x = c
  · subst h
    simp
  · have h2 : ¬ (V.int (x : Int) = V.int (c : Int)) := fun z => h (by injection z with z; omega)
    rw [decide_eq_false h2, decide_eq_true h]
    rfl
theorem natsV_flt (p : Nat → Bool) (l : List Nat) (i : Nat) {x : Nat} (h : l[i]? = some x) : natsV ((l.take (i + 1)).filter p) = natsV ((l.take i).filter p) ++ if p x = true then [V.int (x : Int)] else [] := by
  rw [L2.take_succ' h, List.filter_append]
  unfold natsV
  rw [List.map_append, List.filter_cons]
  cases p x <;> rfl
section
variable {P : Program} {w : World} {K : PySem.W.Frag} {mg : Str → Option Value} {base : Heap} {C : Addr}
theorem scMovedC : FnScope ["cases", "case", "place", "moved", "other"] ["cases", "case", "place"] (defScope sMovedC) := ⟨rfl, rfl, rfl, by decide +kernel, rfl, by decide +kernel, by decide +kernel⟩
theorem ok_movedC {f : Addr} {fd : FuncData} (F : Fun K "_moved" "_moved" sMovedC f fd) (T : Txt K mg C) : FnOk P w K mg base CX0 1 f fd ["cases", "case", "place"] (spMovedC K) := by
  refine F.ok scMovedC (fun vs H Q E h => ?_) (fun cdv A0 outer s H vs Q E hr h => ?_)
  · obtain ⟨D, _, c, k, rfl, _⟩ := h
    rfl
  · obtain ⟨D, l, c, k, rfl, hD, l3, hk, kk⟩ := h
    refine ⟨_, pss_cons (ps_setLc (i := 3) (own := [("other", 4)]) (g := gName 4) (by rfl) scMovedC.nd rfl rfl (sw_true rfl rfl rfl (by decide +kernel)) (pi_tup (pv 0)) (blkOk_by (N := ["cases", "case", "place", "moved", "other"]) (sc := defScope sMovedC) (by decide +kernel))
            (fun _ _ _ _ _ => pg_name (i := 4) scMovedC.nd rfl (Or.inl rfl)) (fun _ _ _ _ _ => pts_one (pt_cmpR op_ne (pv 4) (pv 1) (nomark _)))
            (fun _ _ _ _ _ => pv 4))
      (pss_cons (ps_expr (pe_bm PySem.F.plainAttrs_list PySem.F.slot_list_insert PySem.F.type_list_insert mt_insert (pv 3) (pa_cons (pv 2) (pa_cons (pv 1) pa_nil))))
      (pss_one (ps_ret (pe_callTy (call_tupleN rfl) (by rfl) T.tup_ boot_tuple' (pa_cons (pv 3) pa_nil))))), ?_⟩
    have nl : ∀ m : List Nat, (natsV m).length = m.length := fun m => by unfold natsV; rw [List.length_map]
    refine ⟨_, rfl, D, rfl, ⟨_, hD⟩, fun Dd hDd => ?_⟩
    refine lc_tup (K := K) (a := D) (xs := natsV l) (fun j H' => Same H H' ∧ H' Dd = some (.lst (natsV ((l.take j).filter fun x => decide (x ≠ c))))) ⟨Same.new hDd, upd_same⟩ (fun j H' _ q => SqT.up hD q.1) ?_ ?_
    · rintro j x H6 hx ⟨s6, hd⟩
      unfold natsV at hx
      rw [List.getElem?_map, Option.map_eq_some_iff] at hx
      obtain ⟨y, hy, rfl⟩ := hx
      have hf := natsV_flt (fun x => decide (x ≠ c)) l j hy
      refine ⟨rfl, ?_⟩
      refine ⟨_, rfl, _, rfl, rfl, _, rfl, ?_⟩
      rw [decNe]
      cases hyc : decide (y ≠ c) with
      | false =>
        rw [hyc] at hf
        rw [if_neg (by decide), List.append_nil] at hf
        rw [if_neg (by decide), hf]
        exact ⟨s6, hd⟩
      | true =>
        rw [hyc, if_pos rfl] at hf
        rw [if_pos rfl]
        refine ⟨_, rfl, _, hd, ?_, ?_, ?_⟩
        · rw [nl]
          have := List.length_filter_le (fun x => decide (x ≠ c)) (l.take j)
          rw [List.length_take] at this
          exact Nat.lt_of_le_of_lt (by omega : _ ≤ 10) (by decide)
        · intro d ob e
          rw [upd_ne (ne_of_none e hDd)]
          exact s6 _ _ e
        · rw [upd_same, hf]
    · rintro H6 ⟨s6, hd⟩
      rw [nl, List.take_length] at hd
      have hfl : (l.filter fun x => decide (x ≠ c)).length ≤ 3 := Nat.le_trans (List.length_filter_le _ _) l3
      refine ⟨_, rfl, .inl ⟨rfl, _, SqL.of hd⟩, _, rfl, _, rfl, Dd, _, (k : Nat), .int (c : Int), rfl, rfl, hd, ?_, by omega, by omega, ?_⟩
      · rw [nl]
        exact Nat.lt_of_le_of_lt hfl (by decide)
      have e : (natsV (l.filter fun x => decide (x ≠ c))).take ((k : Nat) : Int).toNat ++ [V.int (c : Int)] ++ (natsV (l.filter fun x => decide (x ≠ c))).drop ((k : Nat) : Int).toNat = natsV (RG3.movedC l c k) := by
        rw [Int.toNat_natCast]
        unfold natsV RG3.movedC
        rw [List.map_append, List.map_cons, List.map_take, List.map_drop]
        simp
      rw [e]
      refine ⟨_, rfl, Dd, _, rfl, SqL.of upd_same, fun t ob1 ht oc od => kk t _ (fun d ob z => ?_) ⟨ob1, upd_same, oc, od⟩⟩
      rw [upd_ne (ne_of_none (H := upd H6 Dd _) (by rw [upd_ne (ne_of_none z hDd)]; exact s6 _ _ z) ht), upd_ne (ne_of_none z hDd)]
      exact s6 _ _ z
end
end PA

namespace PA.N
open PySem PySem.Spec PyProof.Rows L2
/-- how a clause's turn begins; k: what follows its tests -/
def headOf (tg : Expr) (at_ : Pos) (ifs : List Expr) (it : Value) (env : Env) (k : Bool → Sem Fin) : Sem Fin := do
  standAt at_
  match ← pyNext it with
  | none => pure (.done .next)
  | some v =>
    letOwnedTupleGo tg it v
    assign tg env v
    let ok ← forIn ifs true fun c r =>
      if r = true then (do let ok ← isTrue c env (eval c env); pure (ForInStep.yield ok)) else pure (ForInStep.yield r)
    k ok
/-- the last clause's -/
def tailIn (c elt : Expr) (d : Nat) (it acc : Value) (env : Env) : Sem Fin := do
  (do let _ ← call (.builtin "list.append") [acc, ← eval elt env])
  again (.compLoop c d it acc env)
/-- another one's -/
def tailOut (c i1 : Expr) (d : Nat) (it acc : Value) (env : Env) : Sem Fin := do
  let x ← eval i1 env
  standAt i1.pos
  let x ← foldedSetIterable i1 env x
  let _ ← runOwn (.compStart c (d + 1) (← holding [x] (pyIter x)) acc env) env
  again (.compLoop c d it acc env)
def turnOf (c : Expr) (d : Nat) (tg : Expr) (at_ : Pos) (ifs : List Expr) (tail : Sem Fin) (it acc : Value) (env : Env) : Prop :=
  compTurn c d it acc env = headOf tg at_ ifs it env fun ok => if ok then tail else again (.compLoop c d it acc env)
section
variable {elt t0 i0 t1 i1 t2 i2 : Expr} {f0 f1 f2 : List Expr} {scope : Scope} {pos : Pos} {it acc : Value} {env : Env}
theorem turn0 : turnOf (.ListComp elt [⟨t0, i0, f0, 0⟩, ⟨t1, i1, f1, 0⟩, ⟨t2, i2, f2, 0⟩] scope pos) 0 t0 i0.pos f0 (tailOut (.ListComp elt [⟨t0, i0, f0, 0⟩, ⟨t1, i1, f1, 0⟩, ⟨t2, i2, f2, 0⟩] scope pos) i1 0 it acc env) it acc env := by rfl
theorem turn1 : turnOf (.ListComp elt [⟨t0, i0, f0, 0⟩, ⟨t1, i1, f1, 0⟩, ⟨t2, i2, f2, 0⟩] scope pos) 1 t1 i1.pos f1 (tailOut (.ListComp elt [⟨t0, i0, f0, 0⟩, ⟨t1, i1, f1, 0⟩, ⟨t2, i2, f2, 0⟩] scope pos) i2 1 it acc env) it acc env := by rfl
theorem turn2 : turnOf (.ListComp elt [⟨t0, i0, f0, 0⟩, ⟨t1, i1, f1, 0⟩, ⟨t2, i2, f2, 0⟩] scope pos) 2 t2 i2.pos f2 (tailIn (.ListComp elt [⟨t0, i0, f0, 0⟩, ⟨t1, i1, f1, 0⟩, ⟨t2, i2, f2, 0⟩] scope pos) elt 2 it acc env) it acc env := by rfl
end
section
variable {M : Model} {A : Around} {R : Result → Shared → Prop} {s : Shared} {elt tg : Expr} {gens : List Comprehension} {scope : Scope} {pos : Pos} {d : Nat} {at_ : Pos} {ifs : List Expr} {tail : Sem Fin} {it acc : Value} {env : Env} {prog : Program} {w : World}
theorem loopN (hq : turnOf (.ListComp elt gens scope pos) d tg at_ ifs tail it acc env) (I : Nat → Shared → Prop)
    (step : ∀ n s, I n s → wpAny (model prog w) A (pyNext it) (fun r s1 => match r with
      | none => R (.ok .next) s1
      | some v => wpAny (model prog w) A (letOwnedTupleGo tg it v)
          (fun _ s2 => wpAny (model prog w) A (assign tg env v)
            (fun _ s3 => wpAny (model prog w) A (forIn ifs true fun c r =>
                if r = true then (do let ok ← isTrue c env (eval c env); pure (ForInStep.yield ok)) else pure (ForInStep.yield r))
              (fun ok s4 => if ok = true
                then wpAny (model prog w) A tail (fun fin s5 => fin = .again (.compLoop (.ListComp elt gens scope pos) d it acc env) ∧ ∃ m, m < n ∧ I m s5) (fun _ _ => False) s4
                else ∃ m, m < n ∧ I m s4) (fun _ _ => False) s3) (fun _ _ => False) s2) (fun _ _ => False) s1) (fun _ _ => False) s)
    (n : Nat) (h : I n s) : codeAny (model prog w) A (.compLoop (.ListComp elt gens scope pos) d it acc env) R s := by
  refine codeAny_loop rfl I (fun n s hI => ?_) n h
  have key : wpAny (model prog w) A (compTurn (.ListComp elt gens scope pos) d it acc env) (fun fin s' => match fin with
      | .done f => R (.ok f) s'
      | .again c' => c' = .compLoop (.ListComp elt gens scope pos) d it acc env ∧ ∃ m, m < n ∧ I m s') (fun _ _ => False) s := by
    rw [show compTurn (.ListComp elt gens scope pos) d it acc env = _ from hq]
    unfold headOf
    refine wpAny_bind (wpAny_standAt (wpAny_bind (thn (step n s hI) fun r s1 h1 => ?_)))
    cases r with
    | none => exact wpAny_pure h1
    | some v =>
      refine wpAny_bind (thn h1 fun _ s2 h2 => wpAny_bind (thn h2 fun _ s3 h3 => wpAny_bind (thn h3 fun ok s4 h4 => ?_)))
      cases ok with
      | false => exact wpAny_pure ⟨rfl, h4⟩
      | true =>
        refine thn h4 fun fin s5 h5 => ?_
        obtain ⟨rfl, h5⟩ := h5
        exact ⟨rfl, h5⟩
  have fin := wpAny_noted (env := env) (E := fun e s' => R (.error e) s') (wpAny_mono key (fun _ _ q => q) fun _ _ z => z.elim)
  exact fin
theorem startN {g : Comprehension} (hg : gens[d]? = some g) (ha : (g.is_async != 0) = false)
    (h0 : codeAny (model prog w) A (.compLoop (.ListComp elt gens scope pos) d it acc env) R s)
    (h1 : wpAny (model prog w) A (pyIter it) (fun x s' => codeAny (model prog w) A (.compLoop (.ListComp elt gens scope pos) d x acc env) R s') (fun _ _ => False) s) :
    codeAny (model prog w) A (.compStart (.ListComp elt gens scope pos) d it acc env) R s := by
  refine codeAny_of_tree ?_
  have key : wpAny (model prog w) A (compStart (.ListComp elt gens scope pos) d it acc env)
      (fun fin s' => match fin with
        | .done f => R (.ok f) s'
        | .again c' => c'.quiet = true ∧ codeAny (model prog w) A c' R s') (fun _ _ => False) s := by
    unfold compStart
    have e : (clausesOf (.ListComp elt gens scope pos))[d]? = some g := hg
    rw [e]
    show wpAny _ _ (if (g.is_async != 0) = true then _ else _) _ _ s
    rw [ha]
    refine wpAny_ite ?_
    rw [if_neg Bool.false_ne_true]
    refine wpAny_bind (wpAny_askSetting (wpAny_ite ?_))
    split
    · exact wpAny_bind (wpAny_pure (wpAny_pure ⟨rfl, h0⟩))
    · refine wpAny_bind (wpAny_rule (wpAny_bind (wpAny_standAt (wpAny_bind (thn h1 fun x s' q => wpAny_pure ⟨rfl, q⟩)))))
  have fin := wpAny_notedAt (env := env) (pos := theWindowsPlace) (E := fun e s' => R (.error e) s') (wpAny_mono key (fun _ _ q => q) fun _ _ z => z.elim)
  exact fin
end
/-- what comes behind a clause's tests, in a block's context -/
abbrev TBd := L2.St → Hp → (Hp → Prop) → Prop
section
variable {Y : Cx} {elt tg : Expr} {gens : List Comprehension} {scope : Scope} {pos : Pos} {d : Nat} {at_ : Pos} {ifs : List Expr} {tail : Sem Fin} {D : Addr}
/-- this tail keeps its promise, the slots vs are free behind it -/
def TailOk (Y : Cx) (c : Code) (tail : Sem Fin) (tb : TBd) (vs : List Nat) : Prop := ∀ (pins : List (Addr × Obj)) (s : Shared) (σ : L2.St) (H : Hp) (Nx : Hp → Prop), Inv Y pins σ H s → tb σ H Nx →
  wpAny (model Y.prog Y.w) Y.A tail (fun fin s' => fin = .again c ∧ ∃ H', Inv Y pins (wipe σ vs) H' s' ∧ Nx H') (fun _ _ => False) s
/-- a loop of a clause, from what holds of its turns -/
theorem loopY {it : Addr} {fp : List Addr} {tn : Nat → Heap → Prop} {J : It} {g : TG} {tt : TT} {tb : TBd} {vs ws : List Nat} (hq : turnOf (.ListComp elt gens scope pos) d tg at_ ifs tail (.ref it) (.ref D) Y.env)
    (hc : Y.calm = true) (hx : Y.xe = fun _ _ => False) (T : Turn Y.prog Y.w Y.K tg J fp it tn) (pg : PG Y tg g) (pt : PTs Y ifs tt) (tl : TailOk Y (.compLoop (.ListComp elt gens scope pos) d (.ref it) (.ref D) Y.env) tail tb vs) (hv : ∀ i ∈ vs, i ∈ ws)
    {σ : L2.St} {W : Nat → Nat → Hp → Prop} {Z : Hp → Prop}
    (turn : ∀ i m H, W i m H → (J.stop i H ∧ Z H) ∨ (J.go i H ∧ ∃ Nx : Hp → Prop, (∀ H', Nx H' → ∃ m', m' < m ∧ W (i + 1) m' H') ∧ ∀ x H', J.yld i H x H' → g x (wipe σ ws) H' fun σ2 H2 => wipe σ2 ws = wipe σ ws ∧ tt σ2 H2 fun b H3 => if b = true then tb σ2 H3 Nx else Nx H3))
    {pins : List (Addr × Obj)} {s : Shared} {H : Hp} {m : Nat} (I : Inv Y pins (wipe σ ws) H s) (st : tn 0 s.heap) (hf : ∀ b ∈ fp, FpOk Y pins H b) (w0 : W 0 m H) :
    codeAny (model Y.prog Y.w) Y.A (.compLoop (.ListComp elt gens scope pos) d (.ref it) (.ref D) Y.env) (fun r s' => r = .ok .next ∧ ∃ H', Inv Y pins (wipe σ ws) H' s' ∧ Z H') s := by
  have ff : ∀ {H' : Hp}, (∀ b ∈ fp, H' b = none) → ∀ b ∈ fp, FpOk Y pins H' b := fun n b hb => ⟨n b hb, (hf b hb).2⟩
  refine loopN hq (fun n s' => ∃ i H', Inv Y pins (wipe σ ws) H' s' ∧ tn i s'.heap ∧ (∀ b ∈ fp, H' b = none) ∧ W i n H') ?_ m ⟨0, H, I, st, fun b hb => (hf b hb).1, w0⟩
  rintro n s1 ⟨i, H1, I1, st1, n1, w1⟩
  rcases turn i n H1 w1 with ⟨stop, z⟩ | ⟨go, Nx, hNx, step⟩
  · refine thnF (T.done Y rfl rfl rfl hc i pins s1 _ H1 (fun _ _ => False) I1 (ff n1) st1 stop) fun r s2 q => ?_
    obtain ⟨rfl, I2⟩ := q
    exact ⟨rfl, H1, I2, z⟩
  · refine thnF (T.item Y rfl rfl rfl hc i pins s1 _ H1 (fun _ _ => False) I1 (ff n1) st1 go) fun r s2 q => ?_
    obtain ⟨u, rfl, q⟩ := q
    refine thnF q fun _ s3 q3 => ?_
    obtain ⟨x, H3, I3, r3, y3, st3, n3⟩ := q3
    have I4 := I3.pinned (ff n3) (T.obj _ _ st3)
    have back : ∀ {σ' : L2.St} {s' : Shared} {H' : Hp}, Inv Y (pins ++ pinsAt fp s3.heap) σ' H' s' → σ'.length = (wipe σ ws).length → (∀ (j : Nat) v, (wipe σ ws)[j]? = some (some v) → σ'[j]? = some (some v)) → Nx H' →
        ∃ m, m < n ∧ ∃ i H', Inv Y pins (wipe σ ws) H' s' ∧ tn i s'.heap ∧ (∀ b ∈ fp, H' b = none) ∧ W i m H' := by
      intro σ' s' H' I' hl hk nx
      obtain ⟨m', hm, w'⟩ := hNx H' nx
      have at' : ∀ b ∈ fp, ∀ o, s3.heap.get? b = some o → s'.heap.get? b = some o ∧ H' b = none := fun b hb o e => by
        obtain ⟨z1, z2, _⟩ := I'.pin (b, o) (List.mem_append_right _ (List.mem_append_right _ (mem_pinsAt hb e)))
        exact ⟨z1, z2⟩
      refine ⟨m', hm, i + 1, H', I'.unpinned.weak hl.symm hk, T.keep _ _ _ st3 (fun b hb o e => (at' b hb o e).1), fun b hb => ?_, w'⟩
      obtain ⟨o, e, _⟩ := T.obj _ _ st3 b hb
      exact (at' b hb o e).2
    have rg := pg.run _ s3 _ H3 x u _ I4 r3 (step x H3 y3)
    rw [hx] at rg
    refine thn rg fun _ s4 q4 => ?_
    · obtain ⟨σ4, H4, I5, hw, q4⟩ := q4
      have rt := pt.run _ s4 σ4 H4 _ I5 q4
      rw [hx] at rt
      refine thn rt fun b s5 q5 => ?_
      · obtain ⟨H5, I6, q5⟩ := q5
        have l4 : σ4.length = (wipe σ ws).length := by rw [← hw, wipe_length]
        have k4 : ∀ (j : Nat) v, (wipe σ ws)[j]? = some (some v) → σ4[j]? = some (some v) ∧ j ∉ ws := fun j v e => by
          rw [← hw] at e
          exact wipe_some e
        cases b with
        | false =>
          rw [if_neg Bool.false_ne_true] at q5 ⊢
          exact back I6 l4 (fun j v e => (k4 j v e).1) q5
        | true =>
          rw [if_pos rfl] at q5 ⊢
          refine thn (tl _ s5 σ4 H5 Nx I6 q5) fun fin s6 q6 => ?_
          obtain ⟨e6, H6, I7, nx⟩ := q6
          refine ⟨e6, back I7 (by rw [wipe_length, l4]) (fun j v e => ?_) nx⟩
          obtain ⟨e1, e2⟩ := k4 j v e
          rw [wipe_out fun z => e2 (hv j z)]
          exact e1
/-- the last clause's end: the new item -/
def tbIn (te : TE) (D : Addr) : TBd := fun σ H Nx => te σ H fun y H1 => ∃ acc, H1 D = some (.lst acc) ∧ acc.length < sizeLine ∧ Nx (upd H1 D (.lst (acc ++ [y])))
theorem tail_in {te : TE} {it : Value} (hx : Y.xe = fun _ _ => False) (he : PE Y elt te) : TailOk Y (.compLoop (.ListComp elt gens scope pos) d it (.ref D) Y.env) (tailIn (.ListComp elt gens scope pos) elt d it (.ref D) Y.env) (tbIn te D) [] := by
  intro pins s σ H Nx I h
  unfold tailIn
  have r1 := he.run pins s σ H _ I h
  rw [hx] at r1
  refine wpAny_bind (wpAny_bind (thn r1 fun u s1 q => ?_))
  obtain ⟨y, H1, I1, ry, acc, hD, hz, nx⟩ := q
  refine wpAny_bind (app_ok I1 hD hz ry fun s2 I2 => ?_)
  exact wpAny_pure (wpAny_pure ⟨rfl, _, I2, nx⟩)
/-- a clause within: its own loop -/
def tbOut (wi : TI) (g : TG) (tt : TT) (tb : TBd) (ws : List Nat) : TBd := fun σ H Nx => wi σ H fun J H1 => ∃ W : Nat → Nat → Hp → Prop, (∃ m, W 0 m H1) ∧ ∀ j k H, W j k H →
  (J.stop j H ∧ Nx H) ∨ (J.go j H ∧ ∃ Nx1 : Hp → Prop, (∀ H', Nx1 H' → ∃ k', k' < k ∧ W (j + 1) k' H') ∧ ∀ x H', J.yld j H x H' → g x (wipe σ ws) H' fun σ2 H2 => wipe σ2 ws = wipe σ ws ∧ tt σ2 H2 fun b H3 => if b = true then tb σ2 H3 Nx1 else Nx1 H3)
theorem tail_out {i1 : Expr} {it : Value} {at1 : Pos} {ifs1 : List Expr} {tg1 : Expr} {tail1 : Addr → Sem Fin} {gg : Comprehension} {wi : TI} {g : TG} {tt : TT} {tb : TBd} {vs ws : List Nat} (hc : Y.calm = true) (hx : Y.xe = fun _ _ => False) (hg : gens[d + 1]? = some gg) (ha : (gg.is_async != 0) = false)
    (hq : ∀ it1 : Addr, turnOf (.ListComp elt gens scope pos) (d + 1) tg1 at1 ifs1 (tail1 it1) (.ref it1) (.ref D) Y.env) (hi : PI Y tg1 i1 wi) (pg : PG Y tg1 g) (pt : PTs Y ifs1 tt) (hs : ∀ x, foldedSetIterable i1 Y.env x = pure x)
    (tl : ∀ it1 : Addr, TailOk Y (.compLoop (.ListComp elt gens scope pos) (d + 1) (.ref it1) (.ref D) Y.env) (tail1 it1) tb vs) (hv : ∀ i ∈ vs, i ∈ ws) :
    TailOk Y (.compLoop (.ListComp elt gens scope pos) d it (.ref D) Y.env) (tailOut (.ListComp elt gens scope pos) i1 d it (.ref D) Y.env) (tbOut wi g tt tb ws) ws := by
  intro pins s σ H Nx I h
  unfold tailOut
  have r1 := hi.run pins s σ H _ I h
  rw [hx] at r1
  refine wpAny_bind (thn r1 fun v s1 h1 => wpAny_bind (wpAny_standAt (wpAny_bind (wpAny_of_eq (hs v) (wpAny_bind (wpAny_holding (thn h1 fun itv s2 h2 => ?_)))))))
  obtain ⟨it1, fp1, tn1, J1, H2, rfl, I2, T1, st1, f1, W1, ⟨m1, w1⟩, turn1⟩ := h2
  have loop := loopY (hq it1) hc hx T1 pg pt (tl it1) hv turn1 (I2.weak (wipe_length _ _) fun j v e => (wipe_some e).1) st1 f1 w1
  refine wpAny_bind (wpAny_runOwn ?_)
  rw [Around.mark_none]
  refine codeAny_mono (startN hg ha loop (T1.self Y.A 0 _ _ _ st1 loop)) fun r s3 q => ?_
  obtain ⟨rfl, H3, I3, nx⟩ := q
  exact wpAny_pure ⟨rfl, H3, I3, nx⟩
end
/-- [elt for tg in iter if .. ..]: tb tells the clauses behind the first one's tests, by the new list -/
def tLcN (wi : TI) (g : TG) (tt : TT) (tb : Addr → TBd) (ws : List Nat) : TE := fun σ H Q => wi σ H fun J H1 => ∀ D, H1 D = none →
  ∃ W : Nat → Nat → Hp → Prop, (∃ m, W 0 m (upd H1 D (.lst []))) ∧ ∀ i m H, W i m H →
    (J.stop i H ∧ Q (.ref D) H) ∨
    (J.go i H ∧ ∃ Nx : Hp → Prop, (∀ H', Nx H' → ∃ m', m' < m ∧ W (i + 1) m' H') ∧
      ∀ x H', J.yld i H x H' → g x (wipe σ ws) H' fun σ2 H2 => wipe σ2 ws = wipe σ ws ∧ tt σ2 H2 fun b H3 => if b = true then tb D σ2 H3 Nx else Nx H3)
section
variable {X : Cx} {elt tg iter : Expr} {ifs : List Expr} {rest : List Comprehension} {scope : Scope} {pos : Pos} {own : List (Str × Nat)} {wi : TI} {g : TG} {tt : TT} {tb : Addr → TBd} {vs : List Nat} {tail : Addr → Addr → Env → Sem Fin}
/-- what a block of clauses is to bring -/
structure BlkN (X : Cx) (elt tg iter : Expr) (ifs : List Expr) (rest : List Comprehension) (scope : Scope) (pos : Pos) (own : List (Str × Nat)) (wi : TI) (g : TG) (tt : TT) (tb : Addr → TBd) (vs : List Nat) (tail : Addr → Addr → Env → Sem Fin) : Prop where
  calm : X.calm = true
  nd : X.N.Nodup
  it : PI X tg iter wi
  ok : BlkOk X.N X.env.scope scope own
  sub : ∀ i ∈ vs, i ∈ own.map (·.2)
  eq_ : ∀ (a D : Addr) (env : Env), turnOf (.ListComp elt (⟨tg, iter, ifs, 0⟩ :: rest) scope pos) 0 tg iter.pos ifs (tail a D env) (.ref a) (.ref D) env
  tg_ : ∀ s H C cl fp, PG (X.blk s H scope (compEnvC scope cl C X.env) fp) tg g
  ts : ∀ s H C cl fp, PTs (X.blk s H scope (compEnvC scope cl C X.env) fp) ifs tt
  tl : ∀ s H C cl fp a D, TailOk (X.blk s H scope (compEnvC scope cl C X.env) fp) (.compLoop (.ListComp elt (⟨tg, iter, ifs, 0⟩ :: rest) scope pos) 0 (.ref a) (.ref D) (compEnvC scope cl C X.env)) (tail a D (compEnvC scope cl C X.env)) (tb D) vs
  fold : ∀ x, foldedSetIterable iter X.env x = pure x
theorem coreN {pins : List (Addr × Obj)} {s : Shared} {σ : L2.St} {H : Hp} {Q : VK} {pos' : Pos} {use : Option (Value → Sem Unit)} {Qf : Value → Shared → Prop}
    (B : BlkN X elt tg iter ifs rest scope pos own wi g tt tb vs tail) (I : Inv X pins σ H s) (h : tLcN wi g tt tb (own.map (·.2)) σ H Q)
    (hR : ∀ D C s' m H', Inv X pins σ H' s' → Q (.ref D) H' → s'.heap.Ns C m → FpOk X pins H' C → compPost (model X.prog X.w) X.A X.xe use Qf (.ref D) C (.ok .next) s') :
    wpAny (model X.prog X.w) X.A
      (comprehension (.ListComp elt (⟨tg, iter, ifs, 0⟩ :: rest) scope pos) scope X.env pos' (newList []) false (eval iter X.env) use) Qf X.xe s := by
  have clo : ∀ y ∈ scope.names, y.2 = .free → ∃ c, X.env.cells.lookup y.1 = some c := by
    intro y hy e
    exact (B.ok.free y hy e).elim (fun k => I.ok.has _ (.inl k)) fun k => I.ok.has _ (.inr k)
  have first := B.it.run pins s σ H _ I h
  refine wpAny_comprehension_free (use := use) rfl B.fold (closure_ok clo) B.ok.kind
    (fun y hy e => (B.ok.uniq y hy).trans (congrArg some e)) (thn first fun v s1 q1 => thn q1 fun itv s2 q2 => ?_)
  obtain ⟨a, fp, tn, J, H2, rfl, I2, T, st2, f2, q⟩ := q2
  refine wpAny_newObj_type (newEnv_comp ?_) (by show 0 ≤ sizeLine; decide)
  generalize hD : s2.heap.objs.size = D
  have nD : H2 D = none := I2.hok.fresh (Nat.le_of_eq hD)
  obtain ⟨W, ⟨m0, w0⟩, turn⟩ := q D nD
  have grow : ∀ {b : Addr} {o : Obj}, s2.heap.get? b = some o → (s2.heap.push { cls := .type "list", data := .seq ([] : List Value).toArray }).get? b = some o :=
    fun e => Heap.get?_push_of_some _ e
  generalize hs3 : ({ s2 with heap := s2.heap.push { cls := .type "list", data := .seq ([] : List Value).toArray } } : Shared) = s3
  have e3 : s3.heap = s2.heap.push { cls := .type "list", data := .seq ([] : List Value).toArray } := by rw [← hs3]
  have I3 : Inv X pins σ (upd H2 D (.lst [])) s3 := by
    subst hs3
    subst hD
    exact I2.laid (t' := s2.toks) (fun b o e => grow e) (Nat.le_refl _) ⟨Nat.zero_le _, [], 0, .nil, Heap.get?_push_size _ rfl⟩
  have lt2 : ∀ b ∈ fp, b < s2.heap.objs.size := by
    intro b hb
    obtain ⟨o, e, _⟩ := T.obj _ _ st2 b hb
    exact Heap.lt_size e
  have f3 : ∀ b ∈ fp, FpOk X pins (upd H2 D (.lst [])) b ∧ b < s3.heap.objs.size := by
    intro b hb
    have l := lt2 b hb
    obtain ⟨z1, z2⟩ := f2 b hb
    refine ⟨⟨(upd_ne fun z => ?_).trans z1, z2⟩, ?_⟩
    · rw [z, ← hD] at l
      exact Nat.lt_irrefl _ l
    · rw [e3, Heap.size_push]
      exact Nat.lt_succ_of_lt l
  have st3 : tn 0 s3.heap := T.keep _ _ _ st2 fun b _ o e => by rw [e3]; exact grow e
  have I4 := block_start I3 B.ok B.nd f3
  generalize hcl : cellsFrom (s3.heap.objs.size + 1) scope.names (cloFrom X.env.cells scope.names []) = cl at I4
  have pg := B.tg_ s3 (upd H2 D (.lst [])) s3.heap.objs.size cl fp
  have pt := B.ts s3 (upd H2 D (.lst [])) s3.heap.objs.size cl fp
  have pl := B.tl s3 (upd H2 D (.lst [])) s3.heap.objs.size cl fp a D
  have st4 : tn 0 (pushCells (s3.heap.push { cls := .type "dict", data := .dict #[] }) scope.names) :=
    T.keep _ _ _ st3 fun b _ o e => pushCells_keeps _ _ _ _ (Heap.get?_push_of_some _ e)
  have f4 : ∀ b ∈ fp, FpOk (X.blk s3 (upd H2 D (.lst [])) scope (compEnvC scope cl s3.heap.objs.size X.env) fp) [] (upd H2 D (.lst [])) b := by
    intro b hb
    refine ⟨(f3 b hb).1.1, (I4.ok.exf b hb).1, I4.ok.exfs b hb, .inl hb, fun x c e => (I4.ok.exf b hb).2 x c e, fun p hp => ?_⟩
    have hp : p ∈ ([] : List (Addr × Obj)) ++ [] := hp
    simp at hp
  have loop := loopY (Y := X.blk s3 (upd H2 D (.lst [])) scope (compEnvC scope cl s3.heap.objs.size X.env) fp) (B.eq_ a D (compEnvC scope cl s3.heap.objs.size X.env)) B.calm rfl T pg pt pl B.sub turn I4 st4 f4 w0
  have back : ∀ (r : Result) (s' : Shared), (r = .ok .next ∧ ∃ H', Inv (X.blk s3 (upd H2 D (.lst [])) scope (compEnvC scope cl s3.heap.objs.size X.env) fp) [] (wipe σ (own.map (·.2))) H' s' ∧ Q (.ref D) H') →
      compPost (model X.prog X.w) X.A X.xe use Qf (.ref D) s3.heap.objs.size r s' := by
    rintro r s' ⟨rfl, H', I5, q5⟩
    have I6 : Inv X pins σ H' s' := I3.call' (ch := fp) I5.os I5.base I5.hok I5.bare fun b hb => by
      obtain ⟨⟨_, z1, z2, z3, z4, z5⟩, _⟩ := f3 b hb
      exact ⟨z3, z1, z4, z5⟩
    obtain ⟨m, hm, _⟩ := I5.loc
    exact hR D s3.heap.objs.size s' m H' I6 q5 hm (I3.fpOk (Nat.le_refl _) I5.free)
  have done := codeAny_mono (codeAny_compStart_list loop (T.self X.A 0 _ _ _ st4 loop)) back
  subst hcl
  exact done
theorem pe_lcN (B : BlkN X elt tg iter ifs rest scope pos own wi g tt tb vs tail) : PE X (.ListComp elt (⟨tg, iter, ifs, 0⟩ :: rest) scope pos) (tLcN wi g tt tb (own.map (·.2))) := by
  refine ⟨fun pins s σ H Q I h => ?_⟩
  rw [eval_ListComp]
  refine coreN B I h fun D C s' m H' I' q hn f => ⟨m, hn, fun h' sb => ?_⟩
  obtain ⟨f0, f1, f2, f3, f4, f5⟩ := f
  have I2 := I'.turned (t' := s'.toks) (fun b o hb e => (sb.2 b hb).trans e) f0 f1 f3 f4 f5
  exact ⟨.ref D, H', I2, rfl, q⟩
end
section
variable {X : Cx} {elt t0 i0 t1 i1 t2 i2 : Expr} {f0 f1 f2 : List Expr} {scope : Scope} {pos : Pos} {own : List (Str × Nat)} {w0 w1 w2 : TI} {g0 g1 g2 : TG} {c0 c1 c2 : TT} {te : TE} {v1 v2 : List Nat}
/-- [.. for .. for .. for ..]: v1 the slots of the second and third targets, v2 those of the third -/
theorem pe_lc3 (hc : X.calm = true) (hN : X.N.Nodup) (hi : PI X t0 i0 w0) (ok : BlkOk X.N X.env.scope scope own) (h1 : ∀ i ∈ v1, i ∈ own.map (·.2)) (h2 : ∀ i ∈ v2, i ∈ v1)
    (a0 : ∀ (s : Shared) (H : Hp) (C : Addr) (cl : List (Str × Addr)) (fp : List Addr), PG (X.blk s H scope (compEnvC scope cl C X.env) fp) t0 g0)
    (b0 : ∀ (s : Shared) (H : Hp) (C : Addr) (cl : List (Str × Addr)) (fp : List Addr), PTs (X.blk s H scope (compEnvC scope cl C X.env) fp) f0 c0)
    (j1 : ∀ (s : Shared) (H : Hp) (C : Addr) (cl : List (Str × Addr)) (fp : List Addr), PI (X.blk s H scope (compEnvC scope cl C X.env) fp) t1 i1 w1)
    (a1 : ∀ (s : Shared) (H : Hp) (C : Addr) (cl : List (Str × Addr)) (fp : List Addr), PG (X.blk s H scope (compEnvC scope cl C X.env) fp) t1 g1)
    (b1 : ∀ (s : Shared) (H : Hp) (C : Addr) (cl : List (Str × Addr)) (fp : List Addr), PTs (X.blk s H scope (compEnvC scope cl C X.env) fp) f1 c1)
    (j2 : ∀ (s : Shared) (H : Hp) (C : Addr) (cl : List (Str × Addr)) (fp : List Addr), PI (X.blk s H scope (compEnvC scope cl C X.env) fp) t2 i2 w2)
    (a2 : ∀ (s : Shared) (H : Hp) (C : Addr) (cl : List (Str × Addr)) (fp : List Addr), PG (X.blk s H scope (compEnvC scope cl C X.env) fp) t2 g2)
    (b2 : ∀ (s : Shared) (H : Hp) (C : Addr) (cl : List (Str × Addr)) (fp : List Addr), PTs (X.blk s H scope (compEnvC scope cl C X.env) fp) f2 c2)
    (he : ∀ (s : Shared) (H : Hp) (C : Addr) (cl : List (Str × Addr)) (fp : List Addr), PE (X.blk s H scope (compEnvC scope cl C X.env) fp) elt te)
    (z0 : ∀ x, foldedSetIterable i0 X.env x = pure x := by intro _; rfl) (z1 : ∀ env x, foldedSetIterable i1 env x = pure x := by intro _ _; rfl) (z2 : ∀ env x, foldedSetIterable i2 env x = pure x := by intro _ _; rfl) :
    PE X (.ListComp elt [⟨t0, i0, f0, 0⟩, ⟨t1, i1, f1, 0⟩, ⟨t2, i2, f2, 0⟩] scope pos) (tLcN w0 g0 c0 (fun D => tbOut w1 g1 c1 (tbOut w2 g2 c2 (tbIn te D) v2) v1) (own.map (·.2))) :=
  pe_lcN (tail := fun a D env => tailOut (.ListComp elt [⟨t0, i0, f0, 0⟩, ⟨t1, i1, f1, 0⟩, ⟨t2, i2, f2, 0⟩] scope pos) i1 0 (.ref a) (.ref D) env) (vs := v1)
    { calm := hc, nd := hN, it := hi, ok := ok, sub := h1, eq_ := fun _ _ _ => turn0, tg_ := a0, ts := b0, fold := z0
      tl := fun s H C cl fp a D => tail_out (Y := X.blk s H scope (compEnvC scope cl C X.env) fp) hc rfl rfl rfl (fun _ => turn1) (j1 s H C cl fp) (a1 s H C cl fp) (b1 s H C cl fp) (z1 _)
        (fun _ => tail_out (Y := X.blk s H scope (compEnvC scope cl C X.env) fp) hc rfl rfl rfl (fun _ => turn2) (j2 s H C cl fp) (a2 s H C cl fp) (b2 s H C cl fp) (z2 _)
          (fun _ => tail_in rfl (he s H C cl fp)) fun i hi => by cases hi) h2 }
theorem turn20 {it acc : Value} {env : Env} : turnOf (.ListComp elt [⟨t0, i0, f0, 0⟩, ⟨t1, i1, f1, 0⟩] scope pos) 0 t0 i0.pos f0 (tailOut (.ListComp elt [⟨t0, i0, f0, 0⟩, ⟨t1, i1, f1, 0⟩] scope pos) i1 0 it acc env) it acc env := by rfl
theorem turn21 {it acc : Value} {env : Env} : turnOf (.ListComp elt [⟨t0, i0, f0, 0⟩, ⟨t1, i1, f1, 0⟩] scope pos) 1 t1 i1.pos f1 (tailIn (.ListComp elt [⟨t0, i0, f0, 0⟩, ⟨t1, i1, f1, 0⟩] scope pos) elt 1 it acc env) it acc env := by rfl
theorem pe_lcTwo (hc : X.calm = true) (hN : X.N.Nodup) (hi : PI X t0 i0 w0) (ok : BlkOk X.N X.env.scope scope own) (h1 : ∀ i ∈ v1, i ∈ own.map (·.2))
    (a0 : ∀ (s : Shared) (H : Hp) (C : Addr) (cl : List (Str × Addr)) (fp : List Addr), PG (X.blk s H scope (compEnvC scope cl C X.env) fp) t0 g0)
    (b0 : ∀ (s : Shared) (H : Hp) (C : Addr) (cl : List (Str × Addr)) (fp : List Addr), PTs (X.blk s H scope (compEnvC scope cl C X.env) fp) f0 c0)
    (j1 : ∀ (s : Shared) (H : Hp) (C : Addr) (cl : List (Str × Addr)) (fp : List Addr), PI (X.blk s H scope (compEnvC scope cl C X.env) fp) t1 i1 w1)
    (a1 : ∀ (s : Shared) (H : Hp) (C : Addr) (cl : List (Str × Addr)) (fp : List Addr), PG (X.blk s H scope (compEnvC scope cl C X.env) fp) t1 g1)
    (b1 : ∀ (s : Shared) (H : Hp) (C : Addr) (cl : List (Str × Addr)) (fp : List Addr), PTs (X.blk s H scope (compEnvC scope cl C X.env) fp) f1 c1)
    (he : ∀ (s : Shared) (H : Hp) (C : Addr) (cl : List (Str × Addr)) (fp : List Addr), PE (X.blk s H scope (compEnvC scope cl C X.env) fp) elt te)
    (z0 : ∀ x, foldedSetIterable i0 X.env x = pure x := by intro _; rfl) (z1 : ∀ env x, foldedSetIterable i1 env x = pure x := by intro _ _; rfl) :
    PE X (.ListComp elt [⟨t0, i0, f0, 0⟩, ⟨t1, i1, f1, 0⟩] scope pos) (tLcN w0 g0 c0 (fun D => tbOut w1 g1 c1 (tbIn te D) v1) (own.map (·.2))) :=
  pe_lcN (tail := fun a D env => tailOut (.ListComp elt [⟨t0, i0, f0, 0⟩, ⟨t1, i1, f1, 0⟩] scope pos) i1 0 (.ref a) (.ref D) env) (vs := v1)
    { calm := hc, nd := hN, it := hi, ok := ok, sub := h1, eq_ := fun _ _ _ => turn20, tg_ := a0, ts := b0, fold := z0
      tl := fun s H C cl fp a D => tail_out (Y := X.blk s H scope (compEnvC scope cl C X.env) fp) hc rfl rfl rfl (fun _ => turn21) (j1 s H C cl fp) (a1 s H C cl fp) (b1 s H C cl fp) (z1 _)
        (fun _ => tail_in rfl (he s H C cl fp)) fun i hi => by cases hi }
end
/-- the turns of a clause over a walk -/
theorem lcN_it {J : It} {n : Nat} {G : Hp → Prop} {Y : Nat → Hp → V → Hp → Prop} (w : Walk J n G Y) {g : TG} {tt : TT} {bd : TBd} {vs : List Nat} {σ : L2.St} {H1 : Hp} {Z : Hp → Prop} (Pv : Nat → Hp → Prop) (h0 : Pv 0 H1) (hG : ∀ i H, i ≤ n → Pv i H → G H)
    (hs : ∀ i x H H', i < n → Pv i H → Y i H x H' → g x (wipe σ vs) H' fun σ2 H2 => wipe σ2 vs = wipe σ vs ∧ tt σ2 H2 fun b H3 => if b = true then bd σ2 H3 (Pv (i + 1)) else Pv (i + 1) H3) (hd : ∀ H, Pv n H → Z H) :
    ∃ W : Nat → Nat → Hp → Prop, (∃ m, W 0 m H1) ∧ ∀ i m H, W i m H →
      (J.stop i H ∧ Z H) ∨ (J.go i H ∧ ∃ Nx : Hp → Prop, (∀ H', Nx H' → ∃ m', m' < m ∧ W (i + 1) m' H') ∧
        ∀ x H', J.yld i H x H' → g x (wipe σ vs) H' fun σ2 H2 => wipe σ2 vs = wipe σ vs ∧ tt σ2 H2 fun b H3 => if b = true then bd σ2 H3 Nx else Nx H3) := by
  refine ⟨fun i m H => i + m = n ∧ Pv i H, ⟨n, Nat.zero_add n, h0⟩, fun i m H => ?_⟩
  rintro ⟨hm, p⟩
  have q := hG i H (by omega) p
  by_cases l : i < n
  · exact .inr ⟨w.goes i H l q, Pv (i + 1), fun H' p' => ⟨m - 1, by omega, by omega, p'⟩, fun x H' y => hs i x H H' l p (w.yields i H x H' l q y)⟩
  · obtain rfl : i = n := by omega
    exact .inl ⟨w.stops H q, hd H p⟩
end PA.N

set_option maxHeartbeats 8000000
namespace PA
open PySem L2 RZ
open C8 (pss_cut tCut)
open PA.N (pe_lc3 lcN_it)
abbrev sTriples : Stmt := top 18
abbrev sFirst : Stmt := top 19
def triN (m p : Nat) : Nat × Nat × Nat := (p / (m * m), p / m % m, p % m)
abbrev isQ3 : Hp → Addr → Nat × Nat × Nat → Prop := TupOf q3V
def spTriples : Sp := fun vs H Q _ => ∃ m : Nat, vs = [.int (m : Int)] ∧ 1 ≤ m ∧ m ≤ 4 ∧ ∀ L refs H', Same H H' → H' L = some (.lst refs) → Ea H' isQ3 refs ((List.range (m * m * m)).map (triN m)) → Q (.ref L) H'
def spFirst : Sp := fun vs H Q _ => ∃ (S t : Addr) (st : List Nat) (m : Nat) (q : Nat × Nat × Nat), vs = [.ref S, .int (m : Int), .ref t] ∧ H S = some (.tup (natsV st)) ∧ isQ3 H t q ∧ st.length = m * m ∧ m ≤ 4 ∧ q.1 < m ∧ q.2.1 < m ∧ q.2.2 < m ∧
  ∀ u H', Same H H' → isQ3 H' u (st.getD (q.1 * m + q.2.1) 0, st.getD (q.1 * m + q.2.2) 0, st.getD (q.2.1 * m + q.2.2) 0) → Q (.ref u) H'
theorem idx2 {n a b : Nat} (ha : a < n) (hb : b < n) : a * n + b < n * n := by
  have : (a + 1) * n ≤ n * n := Nat.mul_le_mul_right n ha
  rw [Nat.succ_mul] at this
  omega
theorem nat3 (q n a : Nat) : (q : Int) * (n : Int) + (a : Int) = ((q * n + a : Nat) : Int) := by simp
/-- the triples that were made so far -/
def TAcc (H1 : Hp) (D : Addr) (m c : Nat) (H' : Hp) : Prop := Same H1 H' ∧ ∃ acc, H' D = some (.lst acc) ∧ Ea H' isQ3 acc ((List.range c).map (triN m))
theorem TAcc.at {H1 H' : Hp} {D : Addr} {m c d : Nat} (h : TAcc H1 D m c H') (e : c = d) : TAcc H1 D m d H' := e ▸ h
theorem tri_of {m a b c : Nat} (hb : b < m) (hc : c < m) : triN m ((a * m + b) * m + c) = (a, b, c) := by
  unfold triN
  have h0 : 0 < m := by omega
  have e1 : ((a * m + b) * m + c) / m = a * m + b := by
    rw [Nat.mul_comm, Nat.mul_add_div h0, Nat.div_eq_of_lt hc, Nat.add_zero]
  have e2 : (a * m + b) / m = a := by
    rw [Nat.mul_comm, Nat.mul_add_div h0, Nat.div_eq_of_lt hb, Nat.add_zero]
  have e3 : (a * m + b) % m = b := by rw [Nat.mul_comm, Nat.mul_add_mod, Nat.mod_eq_of_lt hb]
  have e4 : ((a * m + b) * m + c) % m = c := by rw [Nat.mul_comm, Nat.mul_add_mod, Nat.mod_eq_of_lt hc]
  rw [← Nat.div_div_eq_div_mul, e1, e2, e3, e4]
section
variable {P : Program} {w : World} {K : PySem.W.Frag} {mg : Str → Option Value} {base : Heap} {C : Addr}
theorem scFirst : FnScope ["starts", "marks", "triple", "first", "second", "third"] ["starts", "marks", "triple"] (defScope sFirst) := ⟨rfl, rfl, rfl, by decide +kernel, rfl, by decide +kernel, by decide +kernel⟩
theorem ok_first {f : Addr} {fd : FuncData} (F : Fun K "_first_states" "_first_states" sFirst f fd) : FnOk P w K mg base CX0 1 f fd ["starts", "marks", "triple"] spFirst := by
  refine F.ok scFirst (fun vs H Q E h => ?_) (fun cdv A0 outer s H vs Q E hr h => ?_)
  · obtain ⟨S, t, _, m, _, rfl, _⟩ := h
    rfl
  · obtain ⟨S, t, st, m, ⟨a, b, c⟩, rfl, hS, ht, hl, m4, ha, hb, hc, kk⟩ := h
    dsimp only at ha hb hc
    refine ⟨_, pss_cons (ps_asg (pv 2) (pg_tup rfl (pgs_cons (pg_name (i := 3) scFirst.nd rfl (Or.inl rfl)) (pgs_cons (pg_name (i := 4) scFirst.nd rfl (Or.inl rfl)) (pgs_cons (pg_name (i := 5) scFirst.nd rfl (Or.inl rfl)) pgs_nil)))))
      (pss_one (ps_ret (pe_tup (pa_cons (pe_ix ix_tup (pv 0) (pe_op op_add (pe_op op_mul (pv 3) (pv 1)) (pv 4)) (fun _ _ => rfl)) (pa_cons (pe_ix ix_tup (pv 0) (pe_op op_add (pe_op op_mul (pv 3) (pv 1)) (pv 5)) (fun _ _ => rfl)) (pa_cons (pe_ix ix_tup (pv 0) (pe_op op_add (pe_op op_mul (pv 4) (pv 1)) (pv 5)) (fun _ _ => rfl)) pa_nil)))))), ?_⟩
    have at_ : ∀ {x y : Nat}, x < m → y < m → atI (natsV st) ((x : Int) * (m : Int) + (y : Int)) = some (.int ((st.getD (x * m + y) 0 : Nat) : Int)) := fun {x y} hx hy => by
      rw [nat3]
      refine atI_nat ?_
      have hi := idx2 hx hy
      unfold natsV
      rw [List.getElem?_map, List.getD_eq_getElem?_getD, List.getElem?_eq_getElem (by rw [hl]; exact hi)]
      rfl
    refine ⟨_, rfl, t, _, rfl, SqT.of ht, rfl, _, _, rfl, _, _, rfl, _, _, rfl, rfl, ?_⟩
    refine ⟨_, rfl, _, rfl, _, rfl, _, _, rfl, rfl, .inr ⟨by omega, by omega⟩, _, rfl, _, _, rfl, rfl, S, _, _, _, rfl, rfl, SqT.of hS, at_ ha hb, ?_⟩
    refine ⟨_, rfl, _, rfl, _, rfl, _, _, rfl, rfl, .inr ⟨by omega, by omega⟩, _, rfl, _, _, rfl, rfl, S, _, _, _, rfl, rfl, SqT.of hS, at_ ha hc, ?_⟩
    refine ⟨_, rfl, _, rfl, _, rfl, _, _, rfl, rfl, .inr ⟨by omega, by omega⟩, _, rfl, _, _, rfl, rfl, S, _, _, _, rfl, rfl, SqT.of hS, at_ hb hc, by show 3 ≤ sizeLine; decide, fun u hu => ?_⟩
    exact kk u _ (Same.new hu) upd_same
theorem scTriples : FnScope ["marks", "first", "second", "third"] ["marks"] (defScope sTriples) := ⟨rfl, rfl, rfl, by decide +kernel, rfl, by decide +kernel, by decide +kernel⟩
theorem ok_triples {f : Addr} {fd : FuncData} (F : Fun K "_mark_triples" "_mark_triples" sTriples f fd) (T : Txt K mg C) : FnOk P w K mg base CX0 1 f fd ["marks"] spTriples := by
  refine F.ok scTriples (fun vs H Q E h => ?_) (fun cdv A0 outer s H vs Q E hr h => ?_)
  · obtain ⟨m, rfl, _⟩ := h
    rfl
  · obtain ⟨m, rfl, m1, m4, kk⟩ := h
    refine ⟨_, pss_one (ps_ret (pe_lc3 (own := [("first", 1), ("second", 2), ("third", 3)]) (v1 := [2, 3]) (v2 := [3]) (g0 := gName 1) (g1 := gName 2) (g2 := gName 3) (c0 := tYes) (c1 := tYes) (c2 := tYes) (by rfl) scTriples.nd (pi_range1 (by rfl) T.range_ (pa_cons (pv 0) pa_nil))
        (blkOk_by (N := ["marks", "first", "second", "third"]) (sc := defScope sTriples) (by decide +kernel)) (by decide) (by decide)
        (fun _ _ _ _ _ => pg_name (i := 1) scTriples.nd rfl (Or.inl rfl)) (fun _ _ _ _ _ => pts_nil)
        (fun _ _ _ _ _ => pi_range1 (by rfl) T.range_ (pa_cons (pv 0) pa_nil)) (fun _ _ _ _ _ => pg_name (i := 2) scTriples.nd rfl (Or.inl rfl)) (fun _ _ _ _ _ => pts_nil)
        (fun _ _ _ _ _ => pi_range1 (by rfl) T.range_ (pa_cons (pv 0) pa_nil)) (fun _ _ _ _ _ => pg_name (i := 3) scTriples.nd rfl (Or.inl rfl)) (fun _ _ _ _ _ => pts_nil)
        (fun _ _ _ _ _ => pe_tup (pa_cons (pv 1) (pa_cons (pv 2) (pa_cons (pv 3) pa_nil)))))), ?_⟩
    refine ⟨_, rfl, (m : Int), rfl, by omega, by omega, fun Dd hD => ?_⟩
    have eD := Same.new (o := .lst []) hD
    refine lcN_it (walk_range (lo := 0) (n := ((m : Int)).toNat)) (fun i H' => TAcc H Dd m (i * m * m) H') (TAcc.at (c := 0) ⟨eD, [], upd_same, Ea.nil⟩ (by simp)) (fun _ _ _ _ => True.intro) ?_ ?_
    · rintro i x H1 H1' hi R1 ⟨rfl, hx⟩
      have hx : x = V.int (0 + (i : Int)) := hx
      rw [Int.zero_add] at hx
      subst hx
      have hi : i < m := hi
      refine ⟨rfl, ?_⟩
      dsimp only [tYes]
      rw [if_pos rfl]
      refine ⟨_, rfl, (m : Int), rfl, by omega, by omega, ?_⟩
      refine lcN_it (walk_range (lo := 0) (n := ((m : Int)).toNat)) (fun j H' => TAcc H Dd m (i * m * m + j * m) H') (R1.at (by omega)) (fun _ _ _ _ => True.intro) ?_ ?_
      · rintro j x H2 H2' hj R2 ⟨rfl, hx⟩
        have hx : x = V.int (0 + (j : Int)) := hx
        rw [Int.zero_add] at hx
        subst hx
        have hj : j < m := hj
        refine ⟨rfl, ?_⟩
        dsimp only [tYes]
        rw [if_pos rfl]
        refine ⟨_, rfl, (m : Int), rfl, by omega, by omega, ?_⟩
        refine lcN_it (walk_range (lo := 0) (n := ((m : Int)).toNat)) (fun l H' => TAcc H Dd m (i * m * m + j * m + l) H') R2 (fun _ _ _ _ => True.intro) ?_ ?_
        · rintro l x H3 H3' hl ⟨s3, acc, hd, he⟩ ⟨rfl, hx⟩
          have hx : x = V.int (0 + (l : Int)) := hx
          rw [Int.zero_add] at hx
          subst hx
          have hl : l < m := hl
          refine ⟨rfl, ?_⟩
          dsimp only [tYes]
          rw [if_pos rfl]
          refine ⟨_, rfl, _, rfl, _, rfl, by show 3 ≤ sizeLine; decide, fun t ht => ?_⟩
          have st := Same.new (o := .tup (q3V (i, j, l))) ht
          have gt : (upd H3' t (.tup (q3V (i, j, l)))) t = some (.tup (q3V (i, j, l))) := upd_same
          have hd4 := st _ _ hd
          have hn : acc.length = i * m * m + j * m + l := by
            have := he.1
            rwa [List.length_map, List.length_range] at this
          have hlt : i * m * m + j * m + l < 64 := by
            have h1 := idx2 hi hj
            have h2 : (i * m + j) * m + l < (i * m + j + 1) * m := by rw [Nat.succ_mul]; omega
            have h3 : (i * m + j + 1) * m ≤ m * m * m := Nat.mul_le_mul_right m h1
            have h4 : m * m * m ≤ 4 * 4 * 4 := Nat.mul_le_mul (Nat.mul_le_mul m4 m4) m4
            rw [Nat.add_mul] at h2
            omega
          refine ⟨acc, hd4, by rw [hn]; exact Nat.lt_of_lt_of_le hlt (by decide), ?_, acc ++ [.ref t], upd_same, ?_⟩
          · intro b o e
            rw [upd_ne (ne_of_none e hD)]
            exact st _ _ (s3 _ _ e)
          · have tk : ∀ b r, isQ3 (upd H3' t (.tup (q3V (i, j, l)))) b r → isQ3 (upd (upd H3' t (.tup (q3V (i, j, l)))) Dd (.lst (acc ++ [.ref t]))) b r := fun b r e => by
              show (upd (upd H3' t (.tup (q3V (i, j, l)))) Dd (.lst (acc ++ [.ref t]))) b = _
              rw [upd_ne (ne_of (H := upd H3' t (.tup (q3V (i, j, l)))) e hd4 (by intro z; cases z))]
              exact e
            rw [show i * m * m + j * m + (l + 1) = (i * m * m + j * m + l) + 1 from rfl, List.range_succ, List.map_append]
            refine Ea.push (he.imp fun c r q => tk c r (st _ _ q)) ?_
            have e : triN m (i * m * m + j * m + l) = (i, j, l) := by
              have := tri_of (a := i) hj hl
              rwa [Nat.add_mul] at this
            show isQ3 _ t (triN m (i * m * m + j * m + l))
            rw [e]
            exact tk _ _ gt
        · intro H3 R3
          exact R3.at (by show i * m * m + j * m + m = _; rw [Nat.succ_mul]; omega)
      · intro H2 R2
        exact R2.at (by show i * m * m + m * m = _; rw [Nat.succ_mul, Nat.add_mul])
    · rintro H1 ⟨s1, acc, hd, he⟩
      exact kk Dd acc H1 s1 hd he
end
end PA

set_option maxHeartbeats 8000000
namespace PA
open PySem L2 RZ
open C8 (pss_cut tCut)
abbrev sWay : Stmt := top 1
/-- the entry of a path: what is before it and the call from there -/
def EnW {N : Type} (S : RG3.Sys N) (W : List Nat) (H : Hp) (c : Addr) (p : Nat) : Prop := ∃ x y u v, H c = some (.tup [x, y, u, v]) ∧ (p < S.M → x = .non ∧ y = .non) ∧ ∀ q k, k < 3 → p = RG3.child S q k → ∃ i : Nat, W[i]? = some q ∧ x = .int (i : Int) ∧ y = .int (k : Int)
def spWay : Sp := fun vs H Q _ => ∃ (N : Type) (S : RG3.Sys N) (W : List Nat) (Es : Addr) (refs : List V) (at' p : Nat), vs = [.ref Es, .int (at' : Int)] ∧ H Es = some (.lst refs) ∧ Ea H (EnW S W) refs W ∧ (∀ i q : Nat, W[i]? = some q → q < S.M → i = q) ∧ W[at']? = some p ∧ (RG3.calls S p).length ≤ 5000 ∧
  ∀ u t H', Same H H' → H' u = some (.tup [.int ((RG3.root S p : Nat) : Int), .ref t]) → H' t = some (.tup (natsV (RG3.calls S p))) → Q (.ref u) H'
section
variable {P : Program} {w : World} {K : PySem.W.Frag} {mg : Str → Option Value} {base : Heap} {C : Addr}
theorem scWay : FnScope ["entries", "at", "calls"] ["entries", "at"] (defScope sWay) := ⟨rfl, rfl, rfl, by decide +kernel, rfl, by decide +kernel, by decide +kernel⟩
theorem ok_way {f : Addr} {fd : FuncData} (F : Fun K "way_to" "way_to" sWay f fd) (T : Txt K mg C) : FnOk P w K mg base CX0 1 f fd ["entries", "at"] spWay := by
  refine F.ok scWay (fun vs H Q E h => ?_) (fun cdv A0 outer s H vs Q E hr h => ?_)
  · obtain ⟨_, _, _, _, _, _, _, rfl, _⟩ := h
    rfl
  · obtain ⟨N, S, W, Es, refs, at0, p, rfl, hEs, hE, hroot, hat, hlen, kk⟩ := h
    refine ⟨_, pss_cons (ps_set (i := 2) scWay.nd rfl (Or.inl rfl) (pe_lst pa_nil))
      (pss_cons (ps_while PassesOwn.never (pt_cmp (pc_notN (pe_ix ix_tup (pe_ix ix_list (pv 0) (pv 1) (fun _ _ => rfl)) pe_int (fun _ _ => rfl))))
        (pss_cons (ps_expr (pe_bm PySem.F.plainAttrs_list PySem.F.slot_list_append PySem.F.type_list_append mt_append (pv 2) (pa_cons (pe_ix ix_tup (pe_ix ix_list (pv 0) (pv 1) (fun _ _ => rfl)) pe_int (fun _ _ => rfl)) pa_nil)))
        (pss_one (ps_set (i := 1) scWay.nd rfl (Or.inl rfl) (pe_ix ix_tup (pe_ix ix_list (pv 0) (pv 1) (fun _ _ => rfl)) pe_int (fun _ _ => rfl))))))
      (pss_one (ps_ret (pe_tup (pa_cons (pv 1) (pa_cons (pe_callTy call_tuple_of (by rfl) T.tup_ boot_tuple' (pa_cons (pe_revL (pv 2)) pa_nil)) pa_nil)))))), ?_⟩
    refine ⟨Nat.zero_le _, fun L hL => ?_⟩
    have sL := Same.new (o := .lst []) hL
    refine ⟨fun m σ' H' => ∃ (a q : Nat) (cs : List Nat), σ' = [some (.ref Es), some (.int (a : Int)), some (.ref L)] ∧ Same H H' ∧ H' L = some (.lst (natsV cs)) ∧ W[a]? = some q ∧ RG3.calls S p = RG3.calls S q ++ cs.reverse ∧ RG3.root S p = RG3.root S q ∧ m = q, ⟨p, at0, p, [], rfl, sL, upd_same, hat, by simp, rfl, rfl⟩, ?_⟩
    rintro m _ H1 ⟨a, q, cs, rfl, s1, hL1, ha, hc, hr', rfl⟩
    obtain ⟨c, hca, x, y, u, v, hct, hno, hch⟩ := hE.get ha
    have hEs1 := SqL.of (K := K) (s1 _ _ hEs)
    have hct1 := SqT.of (K := K) (s1 _ _ hct)
    have LE : L ≠ Es := (ne_of_none hEs hL).symm
    refine ⟨_, rfl, _, rfl, Es, refs, (a : Int), .ref c, rfl, rfl, hEs1, atI_nat hca, c, _, 1, y, rfl, rfl, hct1, rfl, _, rfl, ?_⟩
    by_cases hM : m < S.M
    · obtain ⟨rfl, rfl⟩ := hno hM
      rw [decide_eq_true rfl]
      refine iteF ?_
      have e1 : RG3.calls S p = cs.reverse := by rw [hc, RG3.calls_root hM, List.nil_append]
      have e2 : RG3.root S p = a := by rw [hr', RG3.root_root hM, hroot a m ha hM]
      have e3 : (natsV cs).reverse = natsV (RG3.calls S p) := by
        rw [e1]
        unfold natsV
        rw [List.map_reverse]
      refine ⟨_, rfl, _, rfl, L, natsV cs, rfl, SqL.of hL1, fun r hr2 => ?_⟩
      have sr := Same.new (o := .lst (natsV cs).reverse) hr2
      refine ⟨r, _, rfl, .inl ⟨SqL.of upd_same, fun t ht => ⟨by show 2 ≤ sizeLine; decide, fun u hu => ?_⟩⟩⟩
      have st := Same.new (o := .tup (natsV cs).reverse) ht
      have su := Same.new (o := .tup [.int (a : Int), .ref t]) hu
      refine kk u t _ (((s1.trans sr).trans st).trans su) (by rw [upd_same, e2]) (by rw [su _ _ upd_same, e3])
    · obtain ⟨q, k, hk, rfl, hq⟩ := RG3.path_cases hM
      obtain ⟨i, hi, rfl, rfl⟩ := hch q k hk rfl
      rw [decide_eq_false (by intro z; cases z)]
      refine iteT ?_
      refine ⟨fun σ' H' => ∃ m', m' < RG3.child S q k ∧ ∃ (a q : Nat) (cs : List Nat), σ' = [some (.ref Es), some (.int (a : Int)), some (.ref L)] ∧ Same H H' ∧ H' L = some (.lst (natsV cs)) ∧ W[a]? = some q ∧ RG3.calls S p = RG3.calls S q ++ cs.reverse ∧ RG3.root S p = RG3.root S q ∧ m' = q, fun _ _ h => h, ?_⟩
      have hcl : cs.length < 5000 := by
        have := congrArg List.length hc
        rw [List.length_append, List.length_reverse, RG3.calls_child hk, List.length_append] at this
        simp only [List.length_singleton] at this
        omega
      have nl : (natsV cs).length < sizeLine := by
        unfold natsV
        rw [List.length_map]
        exact Nat.lt_trans hcl (by decide)
      refine ⟨_, rfl, .inl ⟨rfl, _, SqL.of hL1⟩, _, rfl, _, rfl, Es, refs, (a : Int), .ref c, rfl, rfl, hEs1, atI_nat hca, c, _, 1, .int (k : Int), rfl, rfl, hct1, rfl, L, _, _, rfl, rfl, hL1, nl, ?_⟩
      have s2 : Same H (upd H1 L (.lst (natsV cs ++ [V.int (k : Int)]))) := fun d o z => by
        rw [upd_ne (ne_of_none z hL)]
        exact s1 _ _ z
      refine ⟨_, rfl, _, rfl, Es, refs, (a : Int), .ref c, rfl, rfl, SqL.of (s2 _ _ hEs), atI_nat hca, c, _, 0, .int (i : Int), rfl, rfl, SqT.of (s2 _ _ hct), rfl, q, hq, i, q, cs ++ [k], rfl, s2, (by rw [upd_same]; unfold natsV; rw [List.map_append]; rfl), hi, ?_, ?_, rfl⟩
      · rw [hc, RG3.calls_child hk]
        simp
      · rw [hr', RG3.root_child hk]
end
end PA

set_option maxHeartbeats 4000000
namespace PA
open PySem L2 RZ
open C8 (pss_cut tCut)
/-- a table (rows, starts, marks) -/
def TabAt (H : Hp) (t : Addr) (rn : List Rn) (st : List Nat) (k : Int) : Prop := ∃ R S refs, H t = some (.tup [.ref R, .ref S, .int k]) ∧ H R = some (.lst refs) ∧ Each H isT refs (rn.map rz) ∧ H S = some (.lst ((stZ st).map V.int))
theorem TabAt.same {H H' : Hp} {t : Addr} {rn : List Rn} {st : List Nat} {k : Int} (h : TabAt H t rn st k) (s : Same H H') : TabAt H' t rn st k := by
  obtain ⟨R, S, refs, h1, h2, h3, h4⟩ := h
  exact ⟨R, S, refs, s _ _ h1, s _ _ h2, h3.sameT s, s _ _ h4⟩
theorem side_lst {K : PySem.W.Frag} {H : Hp} {R : Addr} {refs : List V} {rn : List Rn} (h2 : H R = some (.lst refs)) (h3 : Each H isT refs (rn.map rz)) : SideAt K H R rn := by
  have hl : refs.length = rn.length := by have := h3.1; rw [List.length_map] at this; exact this
  refine ⟨.l, refs, SqL.of h2, .t, hl, fun i x r hx hr => ?_⟩
  obtain ⟨c, hc, q⟩ := h3.2 i x (rz r) hx (by rw [List.getElem?_map, hr]; rfl)
  exact ⟨c, hc, SqT.of q⟩
theorem ifNo {p A B : Prop} [Decidable p] (h : p) (q : B) : if (!decide p) = true then A else B := by
  rw [decide_eq_true h]
  exact iteF q
theorem root_det {n k k' : Int} (h : Root n k) (h' : Root n k') : k = k' := by cases h <;> cases h' <;> rfl
theorem root_inj {n n' k : Int} (h : Root n k) (h' : Root n' k) : n = n' := by cases h <;> cases h' <;> rfl
theorem ifYes {p A B : Prop} [Decidable p] (h : ¬ p) (q : A) : if (!decide p) = true then A else B := by
  rw [decide_eq_false h]
  exact iteT q
end PA

set_option maxHeartbeats 8000000
namespace PA
open PySem L2 RZ
open C8 (pss_cut tCut)
open PwM (cn pst prow dec pw OkQ ps sq)
abbrev sCounted : Stmt := top 13
abbrev sPowRow : Stmt := top 14
abbrev sPowRows : Stmt := top 11
abbrev sPowStarts : Stmt := top 12
theorem catA {K : PySem.W.Frag} {H : Hp} {a b : Addr} {xs ys : List V} {Q : VK} (ha : H a = some (.tup xs)) (hb : H b = some (.tup ys)) (hl : xs.length + ys.length ≤ sizeLine) (hy : ys ≠ []) (kk : ∀ p H', Same H H' → H' p = some (.tup (xs ++ ys)) → Q (.ref p) H') : rCatA K (.ref a) (.ref b) H Q :=
  ⟨a, b, xs, ys, rfl, rfl, SqT.of ha, SqT.of hb, hl, fun e => kk b H (fun _ _ h => h) (by rw [e]; exact hb), fun _ e => absurd e hy, fun _ _ p hp => kk p _ (Same.new hp) upd_same⟩
def spCounted : Sp := fun vs H Q _ => ∃ (k s a b : Nat), vs = [.int (k : Int), .int (s : Int), .int (a : Int), .int (b : Int)] ∧ k ≤ 16 ∧ s ≤ 1000 ∧ a ≤ 100 ∧ Q (.int ((cn k (s, a, b) : Nat) : Int)) H
def spPowRow : Sp := fun vs H Q _ => ∃ (c : Addr) (k s a b : Nat) (A : List Rn), vs = [.ref c, .int (k : Int), .int (s : Int), .int (a : Int), .int (b : Int)] ∧ isT H c (rz (LP.rw_ A s)) ∧ LF.TOk A ∧ OkQ A k (s, a, b) ∧ A.length ≤ 48 ∧ k ≤ 16 ∧
  ∀ t H', Same H H' → isT H' t (rz (prow A k (s, a, b))) → Q (.ref t) H'
def spPowRows (K : PySem.W.Frag) : Sp := fun vs H Q _ => ∃ (R : Addr) (refs : List V) (A : List Rn) (k : Nat), vs = [.ref R, .int (k : Int)] ∧ H R = some (.tup refs) ∧ Each H isT refs (A.map rz) ∧ LF.TOk A ∧ A.length * k * k ≤ 48 ∧ 1 ≤ k ∧ k ≤ 16 ∧ A.length ≤ 48 ∧
  ∀ L refs' H', Same H H' → H' L = some (.lst refs') → Each H' isT refs' ((pw A k).map rz) → Q (.ref L) H'
def spPowStarts (K : PySem.W.Frag) : Sp := fun vs H Q _ => ∃ (S : Addr) (st : List Nat) (m k : Nat), vs = [.ref S, .int (m : Int), .int (k : Int)] ∧ SqT K H S (natsV st) ∧ st.length = m * m ∧ (∀ x ∈ st, x ≤ 100) ∧ 1 ≤ m ∧ 1 ≤ k ∧ m * k ≤ 4 ∧
  ∀ L H', Same H H' → H' L = some (.lst (natsV (ps st m k))) → Q (.ref L) H'
theorem iteTb {c : Bool} {A B : Prop} (h : c = true) (q : A) : if c = true then A else B := by
  rw [if_pos h]
  exact q
theorem iteFb {c : Bool} {A B : Prop} (h : c = false) (q : B) : if c = true then A else B := by
  rw [if_neg (by rw [h]; decide)]
  exact q
theorem pst_a1 {A : List Rn} {k s a b : Nat} {r : Rn} (e : LP.rw_ A s = r) (h : ¬ a + 1 < k) (f : r.2.1 = true) : pst A k (s, a, b) false = (true, r.1, b, 0) := by
  subst e
  exact (if_neg h).trans (if_pos f)
theorem pst_a0 {A : List Rn} {k s a b : Nat} {r : Rn} (e : LP.rw_ A s = r) (h : ¬ a + 1 < k) (f : r.2.1 = false) : pst A k (s, a, b) false = (false, r.1, 0, b) := by
  subst e
  exact (if_neg h).trans (if_neg (by rw [f]; decide))
theorem pst_b1 {A : List Rn} {k s a b : Nat} {r : Rn} (e : LP.rw_ A s = r) (h : ¬ b + 1 < k) (f : r.2.2.2 = true) : pst A k (s, a, b) true = (true, r.2.2.1, 0, a) := by
  subst e
  exact (if_neg h).trans (if_pos f)
theorem pst_b0 {A : List Rn} {k s a b : Nat} {r : Rn} (e : LP.rw_ A s = r) (h : ¬ b + 1 < k) (f : r.2.2.2 = false) : pst A k (s, a, b) true = (false, r.2.2.1, a, 0) := by
  subst e
  exact (if_neg h).trans (if_neg (by rw [f]; decide))
abbrev NPowRow : List Str := ["row", "k", "state", "ahead", "behind", "next_ahead", "falls", "next_behind", "goes", "first", "second"]
section
variable {P : Program} {w : World} {K : PySem.W.Frag} {mg : Str → Option Value} {base : Heap} {C : Addr}
theorem scCounted : FnScope ["k", "state", "ahead", "behind"] ["k", "state", "ahead", "behind"] (defScope sCounted) := ⟨rfl, rfl, rfl, by decide +kernel, rfl, by decide +kernel, by decide +kernel⟩
theorem ok_counted {f : Addr} {fd : FuncData} (F : Fun K "_counted" "_counted" sCounted f fd) : FnOk P w K mg base CX0 1 f fd ["k", "state", "ahead", "behind"] spCounted := by
  refine F.ok scCounted (fun vs H Q E h => ?_) (fun cdv A0 outer s H vs Q E hr h => ?_)
  · obtain ⟨k, s, a, b, rfl, _⟩ := h
    rfl
  · obtain ⟨k, s, a, b, rfl, hk, hs, ha, kk⟩ := h
    refine ⟨_, pss_one (ps_ret (pe_op op_add (pe_op op_mul (pe_op op_add (pe_op op_mul (pv 1) (pv 0)) (pv 2)) (pv 0)) (pv 3))), ?_⟩
    refine ⟨_, rfl, _, rfl, _, _, rfl, rfl, .inr ⟨by omega, by omega⟩, _, rfl, _, _, rfl, rfl, _, rfl, _, _, rfl, rfl, .inr ⟨by omega, by omega⟩, _, rfl, _, _, rfl, rfl, ?_⟩
    have e : ((s : Int) * (k : Int) + (a : Int)) * (k : Int) + (b : Int) = ((cn k (s, a, b) : Nat) : Int) := by simp [cn]
    show Q (.int (((s : Int) * (k : Int) + (a : Int)) * (k : Int) + (b : Int))) H
    rw [e]
    exact kk
theorem scPowRow : FnScope NPowRow ["row", "k", "state", "ahead", "behind"] (defScope sPowRow) := ⟨rfl, rfl, rfl, by decide +kernel, rfl, by decide +kernel, by decide +kernel⟩
theorem ok_powRow {f g : Addr} {fd gd : FuncData} (F : Fun K "_power_row" "_power_row" sPowRow f fd) (D : Df K mg "_counted" sCounted g gd ["k", "state", "ahead", "behind"]) : FnOk P w K mg base CX0 2 f fd ["row", "k", "state", "ahead", "behind"] spPowRow := by
  have G : FnOk P w K mg base CX0 1 g gd ["k", "state", "ahead", "behind"] spCounted := ok_counted D.F
  refine F.ok scPowRow (fun vs H Q E h => ?_) (fun cdv A0 outer s0 H vs Q E hr h => ?_)
  · obtain ⟨c, k, s, a, b, A, rfl, _⟩ := h
    rfl
  · obtain ⟨c, k, s, a, b, A, rfl, hc, oA, ⟨q0, q1, q2⟩, lA, hk, kk⟩ := h
    dsimp only at q0 q1 q2
    refine ⟨_, pss_cons (ps_asg (pv 0) (pg_tup rfl (pgs_cons (pg_name (i := 5) scPowRow.nd rfl (Or.inl rfl)) (pgs_cons (pg_name (i := 6) scPowRow.nd rfl (Or.inl rfl)) (pgs_cons (pg_name (i := 7) scPowRow.nd rfl (Or.inl rfl)) (pgs_cons (pg_name (i := 8) scPowRow.nd rfl (Or.inl rfl)) pgs_nil))))))
      (pss_cut (ps_if (pt_cmpR op_lt (pe_op op_add (pv 3) pe_int) (pv 1) (nomark _))
        (pss_one (ps_set (i := 9) scPowRow.nd rfl (Or.inl rfl) (pe_tup (pa_cons (pe_call G hr rfl D.M D.F.kp D.B .nil pass0 (pa_cons (pv 1) (pa_cons (pv 2) (pa_cons (pe_op op_add (pv 3) pe_int) (pa_cons (pv 4) pa_nil))))) (pa_cons pe_bl pa_nil)))))
        (pss_one (ps_if (pt_val (pv 6))
          (pss_one (ps_set (i := 9) scPowRow.nd rfl (Or.inl rfl) (pe_tup (pa_cons (pe_call G hr rfl D.M D.F.kp D.B .nil pass0 (pa_cons (pv 1) (pa_cons (pv 5) (pa_cons (pv 4) (pa_cons pe_int pa_nil))))) (pa_cons pe_bl pa_nil)))))
          (pss_one (ps_set (i := 9) scPowRow.nd rfl (Or.inl rfl) (pe_tup (pa_cons (pe_call G hr rfl D.M D.F.kp D.B .nil pass0 (pa_cons (pv 1) (pa_cons (pv 5) (pa_cons pe_int (pa_cons (pv 4) pa_nil))))) (pa_cons pe_bl pa_nil))))))))
      (pss_cut (ps_if (pt_cmpR op_lt (pe_op op_add (pv 4) pe_int) (pv 1) (nomark _))
        (pss_one (ps_set (i := 10) scPowRow.nd rfl (Or.inl rfl) (pe_tup (pa_cons (pe_call G hr rfl D.M D.F.kp D.B .nil pass0 (pa_cons (pv 1) (pa_cons (pv 2) (pa_cons (pv 3) (pa_cons (pe_op op_add (pv 4) pe_int) pa_nil))))) (pa_cons pe_bl pa_nil)))))
        (pss_one (ps_if (pt_val (pv 8))
          (pss_one (ps_set (i := 10) scPowRow.nd rfl (Or.inl rfl) (pe_tup (pa_cons (pe_call G hr rfl D.M D.F.kp D.B .nil pass0 (pa_cons (pv 1) (pa_cons (pv 7) (pa_cons pe_int (pa_cons (pv 3) pa_nil))))) (pa_cons pe_bl pa_nil)))))
          (pss_one (ps_set (i := 10) scPowRow.nd rfl (Or.inl rfl) (pe_tup (pa_cons (pe_call G hr rfl D.M D.F.kp D.B .nil pass0 (pa_cons (pv 1) (pa_cons (pv 7) (pa_cons (pv 3) (pa_cons pe_int pa_nil))))) (pa_cons pe_bl pa_nil))))))))
      (pss_one (ps_ret (pe_op op_catA (pv 9) (pv 10)))))), ?_⟩
    have r0 : (LP.rw_ A s).1 < A.length := LP.nx_ok oA q0 false
    have r1 : (LP.rw_ A s).2.2.1 < A.length := LP.nx_ok oA q0 true
    generalize hrw : LP.rw_ A s = r at hc r0 r1
    refine ⟨_, rfl, c, _, rfl, SqT.of hc, rfl, _, _, rfl, _, _, rfl, _, _, rfl, _, _, rfl, rfl, ?_⟩
    refine ⟨fun σ' H' => ∃ t1, σ' = [some (.ref c), some (.int (k : Int)), some (.int (s : Int)), some (.int (a : Int)), some (.int (b : Int)), some (.int (r.1 : Int)), some (.bl r.2.1), some (.int (r.2.2.1 : Int)), some (.bl r.2.2.2), some (.ref t1), none] ∧ Same H H' ∧ H' t1 = some (.tup [.int ((cn k (pst A k (s, a, b) false).2 : Nat) : Int), .bl (pst A k (s, a, b) false).1]), ?_, ?_⟩
    · refine ⟨_, rfl, _, _, rfl, rfl, _, rfl, _, _, rfl, rfl, _, rfl, ifD_2 (fun hlt => ?_) (fun hge => ?_)⟩
      · have e : pst A k (s, a, b) false = (false, s, a + 1, b) := if_pos (by dsimp only; omega)
        refine ⟨_, rfl, _, rfl, _, rfl, _, _, rfl, rfl, _, rfl, k, s, a + 1, b, rfl, by omega, by omega, by omega, by show 2 ≤ sizeLine; decide, fun t ht => ⟨t, rfl, Same.new ht, ?_⟩⟩
        rw [e]
        exact upd_same
      · refine ⟨_, rfl, r.2.1, rfl, ?_⟩
        by_cases f : r.2.1 = true
        · have e := pst_a1 (A := A) (k := k) (b := b) (a := a) hrw (by omega) f
          refine iteTb f ⟨_, rfl, _, rfl, _, rfl, k, r.1, b, 0, rfl, by omega, by omega, by omega, by show 2 ≤ sizeLine; decide, fun t ht => ⟨t, rfl, Same.new ht, ?_⟩⟩
          rw [e]
          exact upd_same
        · have f' : r.2.1 = false := by simpa using f
          have e := pst_a0 (A := A) (k := k) (b := b) (a := a) hrw (by omega) f'
          refine iteFb f' ⟨_, rfl, _, rfl, _, rfl, k, r.1, 0, b, rfl, by omega, by omega, by omega, by show 2 ≤ sizeLine; decide, fun t ht => ⟨t, rfl, Same.new ht, ?_⟩⟩
          rw [e]
          exact upd_same
    rintro _ H1 ⟨t1, rfl, s1, ht1⟩
    refine ⟨fun σ' H' => ∃ t2, σ' = [some (.ref c), some (.int (k : Int)), some (.int (s : Int)), some (.int (a : Int)), some (.int (b : Int)), some (.int (r.1 : Int)), some (.bl r.2.1), some (.int (r.2.2.1 : Int)), some (.bl r.2.2.2), some (.ref t1), some (.ref t2)] ∧ Same H1 H' ∧ H' t2 = some (.tup [.int ((cn k (pst A k (s, a, b) true).2 : Nat) : Int), .bl (pst A k (s, a, b) true).1]), ?_, ?_⟩
    · refine ⟨_, rfl, _, _, rfl, rfl, _, rfl, _, _, rfl, rfl, _, rfl, ifD_2 (fun hlt => ?_) (fun hge => ?_)⟩
      · have e : pst A k (s, a, b) true = (false, s, a, b + 1) := if_pos (by dsimp only; omega)
        refine ⟨_, rfl, _, rfl, _, rfl, _, rfl, _, _, rfl, rfl, k, s, a, b + 1, rfl, by omega, by omega, by omega, by show 2 ≤ sizeLine; decide, fun t ht => ⟨t, rfl, Same.new ht, ?_⟩⟩
        rw [e]
        exact upd_same
      · refine ⟨_, rfl, r.2.2.2, rfl, ?_⟩
        by_cases f : r.2.2.2 = true
        · have e := pst_b1 (A := A) (k := k) (b := b) (a := a) hrw (by omega) f
          refine iteTb f ⟨_, rfl, _, rfl, _, rfl, k, r.2.2.1, 0, a, rfl, by omega, by omega, by omega, by show 2 ≤ sizeLine; decide, fun t ht => ⟨t, rfl, Same.new ht, ?_⟩⟩
          rw [e]
          exact upd_same
        · have f' : r.2.2.2 = false := by simpa using f
          have e := pst_b0 (A := A) (k := k) (b := b) (a := a) hrw (by omega) f'
          refine iteFb f' ⟨_, rfl, _, rfl, _, rfl, k, r.2.2.1, a, 0, rfl, by omega, by omega, by omega, by show 2 ≤ sizeLine; decide, fun t ht => ⟨t, rfl, Same.new ht, ?_⟩⟩
          rw [e]
          exact upd_same
    rintro _ H2 ⟨t2, rfl, s2, ht2⟩
    refine ⟨_, rfl, _, rfl, catA (s2 _ _ ht1) ht2 (by show 4 ≤ sizeLine; decide) (by intro z; cases z) fun p H' s3 hp => kk p H' ((s1.trans s2).trans s3) ?_⟩
    show H' p = some (.tup (rv (rz (prow A k (s, a, b)))))
    rw [hp]
    rfl
end
end PA

set_option maxHeartbeats 8000000
namespace PA
open PySem L2 RZ
open C8 (pss_cut tCut)
open PwM (cn pst prow dec pw OkQ ps sq)
open N (pe_lc3 pe_lcTwo lcN_it)
abbrev NPowRows : List Str := ["rows", "k", "state", "row", "ahead", "behind"]
abbrev NPowStarts : List Str := ["starts", "marks", "k", "size", "first", "second"]
def RAcc (H1 : Hp) (D : Addr) (A : List Rn) (k c : Nat) (H' : Hp) : Prop := Same H1 H' ∧ ∃ acc, H' D = some (.lst acc) ∧ Each H' isT acc (((List.range c).map fun i => prow A k (dec k i)).map rz)
theorem RAcc.at {H1 H' : Hp} {D : Addr} {A : List Rn} {k c d : Nat} (h : RAcc H1 D A k c H') (e : c = d) : RAcc H1 D A k d H' := e ▸ h
def NAcc (H1 : Hp) (D : Addr) (f : Nat → Nat) (c : Nat) (H' : Hp) : Prop := Same H1 H' ∧ H' D = some (.lst (natsV ((List.range c).map f)))
theorem NAcc.at {H1 H' : Hp} {D : Addr} {f : Nat → Nat} {c d : Nat} (h : NAcc H1 D f c H') (e : c = d) : NAcc H1 D f d H' := e ▸ h
section
variable {P : Program} {w : World} {K : PySem.W.Frag} {mg : Str → Option Value} {base : Heap} {C : Addr}
theorem scPowRows : FnScope NPowRows ["rows", "k"] (defScope sPowRows) := ⟨rfl, rfl, rfl, by decide +kernel, rfl, by decide +kernel, by decide +kernel⟩
theorem ok_powRows {f g g2 : Addr} {fd gd gd2 : FuncData} (F : Fun K "power_rows" "power_rows" sPowRows f fd) (T : Txt K mg C) (hen : mg "enumerate" = none) (D1 : Df K mg "_counted" sCounted g gd ["k", "state", "ahead", "behind"]) (D : Df K mg "_power_row" sPowRow g2 gd2 ["row", "k", "state", "ahead", "behind"]) : FnOk P w K mg base CX0 3 f fd ["rows", "k"] (spPowRows K) := by
  have G : FnOk P w K mg base CX0 2 g2 gd2 ["row", "k", "state", "ahead", "behind"] spPowRow := ok_powRow D.F D1
  refine F.ok scPowRows (fun vs H Q E h => ?_) (fun cdv A0 outer s0 H vs Q E hr h => ?_)
  · obtain ⟨R, _, _, k, rfl, _⟩ := h
    rfl
  · obtain ⟨R, refs, A, k, rfl, hR, hE, oA, hA, k1, k16, lA, kk⟩ := h
    refine ⟨_, pss_one (ps_ret (pe_lc3 (own := [("state", 2), ("row", 3), ("ahead", 4), ("behind", 5)]) (v1 := [4, 5]) (v2 := [5]) (g0 := gTup K 2 (gCons (gName 2) (gCons (gName 3) gNil))) (g1 := gName 4) (g2 := gName 5) (c0 := tYes) (c1 := tYes) (c2 := tYes) (by rfl) scPowRows.nd (pi_enumK (by rfl) hen (pa_cons (pv 0) pa_nil))
        (blkOk_by (N := NPowRows) (sc := defScope sPowRows) (by decide +kernel)) (by decide) (by decide)
        (fun _ _ _ _ _ => by exact pg_tup rfl (pgs_cons (pg_name (i := 2) scPowRows.nd rfl (Or.inl rfl)) (pgs_cons (pg_name (i := 3) scPowRows.nd rfl (Or.inl rfl)) pgs_nil))) (fun _ _ _ _ _ => pts_nil)
        (fun _ _ _ _ _ => pi_range1 (by rfl) T.range_ (pa_cons (pv 1) pa_nil)) (fun _ _ _ _ _ => pg_name (i := 4) scPowRows.nd rfl (Or.inl rfl)) (fun _ _ _ _ _ => pts_nil)
        (fun _ _ _ _ _ => pi_range1 (by rfl) T.range_ (pa_cons (pv 1) pa_nil)) (fun _ _ _ _ _ => pg_name (i := 5) scPowRows.nd rfl (Or.inl rfl)) (fun _ _ _ _ _ => pts_nil)
        (fun _ _ _ _ _ => pe_call G hr rfl D.M D.F.kp D.B .nil pass0 (pa_cons (pv 3) (pa_cons (pv 1) (pa_cons (pv 2) (pa_cons (pv 4) (pa_cons (pv 5) pa_nil)))))))), ?_⟩
    have hl : refs.length = A.length := by have := hE.1; rwa [List.length_map] at this
    refine ⟨_, rfl, .t, R, refs, rfl, SqT.of hR, fun Dd hD => ?_⟩
    have eD := Same.new (o := .lst []) hD
    refine lcN_it (walk_e (K := K) (k := .t) (a := R) (xs := refs)) (fun i H' => RAcc H Dd A k (i * k * k) H') ?_ ?_ ?_ ?_
    · refine RAcc.at (c := 0) ⟨eD, [], upd_same, Each.nil⟩ (by rw [Nat.zero_mul, Nat.zero_mul])
    · rintro i H' _ ⟨s', _⟩
      exact SqT.of (s' _ _ hR)
    · rintro i x H1 H1' hi ⟨s1, acc1, hd1, he1⟩ ⟨T1, xa, xb, rfl, hT1, rfl, hxa, hxb⟩
      cases hxa
      have hiA : i < A.length := by rw [← hl]; exact hi
      obtain ⟨c, rfl, hc⟩ := hE.2 i xb (rz (LP.rw_ A i)) hxb (by rw [List.getElem?_map, LP.row_of hiA]; rfl)
      have eT := Same.new (o := .tup [.int (i : Int), .ref c]) hT1
      refine ⟨T1, _, rfl, SqT.of upd_same, rfl, _, _, rfl, _, _, rfl, rfl, rfl, ?_⟩
      dsimp only [tYes]
      rw [if_pos rfl]
      have R2 : RAcc H Dd A k (i * k * k + 0 * k) (upd H1 T1 (.tup [.int (i : Int), .ref c])) := by
        refine RAcc.at (c := i * k * k) ⟨s1.trans eT, acc1, eT _ _ hd1, he1.sameT eT⟩ (by omega)
      generalize (upd H1 T1 (.tup [.int (i : Int), .ref c])) = H2 at R2 ⊢
      refine ⟨_, rfl, (k : Int), rfl, by omega, by omega, ?_⟩
      refine lcN_it (walk_range (lo := 0) (n := ((k : Int)).toNat)) (fun j H' => RAcc H Dd A k (i * k * k + j * k) H') R2 (fun _ _ _ _ => True.intro) ?_ ?_
      · rintro j x H3 H3' hj R3 ⟨rfl, hx⟩
        have hx : x = V.int (0 + (j : Int)) := hx
        rw [Int.zero_add] at hx
        subst hx
        have hj : j < k := hj
        refine ⟨rfl, ?_⟩
        dsimp only [tYes]
        rw [if_pos rfl]
        refine ⟨_, rfl, (k : Int), rfl, by omega, by omega, ?_⟩
        refine lcN_it (walk_range (lo := 0) (n := ((k : Int)).toNat)) (fun l H' => RAcc H Dd A k (i * k * k + j * k + l) H') R3 (fun _ _ _ _ => True.intro) ?_ ?_
        · rintro l x H4 H4' hll ⟨s4, acc, hd, he⟩ ⟨rfl, hx⟩
          have hx : x = V.int (0 + (l : Int)) := hx
          rw [Int.zero_add] at hx
          subst hx
          have hll : l < k := hll
          refine ⟨rfl, ?_⟩
          dsimp only [tYes]
          rw [if_pos rfl]
          refine ⟨_, rfl, _, rfl, _, rfl, _, rfl, _, rfl, c, k, i, j, l, A, rfl, s4 _ _ hc, oA, ⟨hiA, hj, hll⟩, lA, k16, fun t H5 s5 ht => ?_⟩
          have hn : acc.length = i * k * k + j * k + l := by
            have := he.1
            rwa [List.length_map, List.length_map, List.length_range] at this
          have hlt : i * k * k + j * k + l < A.length * k * k := by
            have := PwM.cn_lt (A := A) (k := k) (q := (i, j, l)) ⟨hiA, hj, hll⟩
            unfold cn at this
            dsimp only at this
            rwa [Nat.add_mul] at this
          have hd5 := s5 _ _ hd
          refine ⟨acc, hd5, ?_, ?_, acc ++ [.ref t], upd_same, ?_⟩
          · rw [hn]
            exact Nat.lt_of_lt_of_le (by omega : i * k * k + j * k + l < 48) (by decide)
          · intro b o e
            rw [upd_ne (ne_of_none e hD)]
            exact s5 _ _ (s4 _ _ e)
          · have tk : ∀ b r, isT H5 b r → isT (upd H5 Dd (.lst (acc ++ [.ref t]))) b r := fun b r e => by
              show (upd H5 Dd (.lst (acc ++ [.ref t]))) b = _
              rw [upd_ne (ne_of (H := H5) e hd5 (by intro z; cases z))]
              exact e
            have ec : i * k * k + j * k + l = cn k (i, j, l) := by
              unfold cn
              rw [Nat.add_mul]
            rw [show i * k * k + j * k + (l + 1) = (i * k * k + j * k + l) + 1 from rfl, List.range_succ, List.map_append, List.map_append]
            refine ((he.sameT s5).imp tk).push ?_
            have ed : dec k (cn k (i, j, l)) = (i, j, l) := PwM.dec_cn hj hll
            rw [ec]
            show isT (upd H5 Dd (.lst (acc ++ [.ref t]))) t (rz (prow A k (dec k (cn k (i, j, l)))))
            rw [ed]
            exact tk _ _ ht
        · intro H4 R4
          exact R4.at (by show i * k * k + j * k + k = _; rw [Nat.succ_mul]; omega)
      · intro H3 R3
        exact R3.at (by show i * k * k + k * k = _; rw [Nat.succ_mul, Nat.add_mul])
    · rintro H1 ⟨s1, acc, hd, he⟩
      rw [hl] at he
      exact kk Dd acc H1 s1 hd he
theorem scPowStarts : FnScope NPowStarts ["starts", "marks", "k"] (defScope sPowStarts) := ⟨rfl, rfl, rfl, by decide +kernel, rfl, by decide +kernel, by decide +kernel⟩
theorem ok_powStarts {f g : Addr} {fd gd : FuncData} (F : Fun K "power_starts" "power_starts" sPowStarts f fd) (T : Txt K mg C) (D : Df K mg "_counted" sCounted g gd ["k", "state", "ahead", "behind"]) : FnOk P w K mg base CX0 2 f fd ["starts", "marks", "k"] (spPowStarts K) := by
  have G : FnOk P w K mg base CX0 1 g gd ["k", "state", "ahead", "behind"] spCounted := ok_counted D.F
  refine F.ok scPowStarts (fun vs H Q E h => ?_) (fun cdv A0 outer s0 H vs Q E hr h => ?_)
  · obtain ⟨S, _, _, _, rfl, _⟩ := h
    rfl
  · obtain ⟨S, st, m, k, rfl, hS, hl, h100, m1, k1, mk4, kk⟩ := h
    refine ⟨_, pss_cons (ps_set (i := 3) scPowStarts.nd rfl (Or.inr rfl) (pe_op op_mul (pv 1) (pv 2)))
      (pss_one (ps_ret (pe_lcTwo (own := [("first", 4), ("second", 5)]) (v1 := [5]) (g0 := gName 4) (g1 := gName 5) (c0 := tYes) (c1 := tYes) (by rfl) scPowStarts.nd (pi_range1 (by rfl) T.range_ (pa_cons (pv 3) pa_nil))
        (blkOk_by (N := NPowStarts) (sc := defScope sPowStarts) (by decide +kernel)) (by decide)
        (fun _ _ _ _ _ => pg_name (i := 4) scPowStarts.nd rfl (Or.inl rfl)) (fun _ _ _ _ _ => pts_nil)
        (fun _ _ _ _ _ => pi_range1 (by rfl) T.range_ (pa_cons (pv 3) pa_nil)) (fun _ _ _ _ _ => pg_name (i := 5) scPowStarts.nd rfl (Or.inl rfl)) (fun _ _ _ _ _ => pts_nil)
        (fun _ _ _ _ _ => pe_call G hr rfl D.M D.F.kp D.B .nil pass0 (pa_cons (pv 2) (pa_cons (pe_ix (ix_tupK (K := K) rfl) (pv 0) (pe_op op_add (pe_op op_mul (pe_op op_fdiv (pv 4) (pv 2)) (pv 1)) (pe_op op_fdiv (pv 5) (pv 2))) (fun _ _ => rfl)) (pa_cons (pe_op op_mod (pv 4) (pv 2)) (pa_cons (pe_op op_mod (pv 5) (pv 2)) pa_nil)))))))), ?_⟩
    have mk1 : 1 ≤ m * k := Nat.mul_le_mul m1 k1
    have hk4 : k ≤ 4 := Nat.le_trans (by have := Nat.mul_le_mul_right k m1; omega) mk4
    have hm4 : m ≤ 4 := Nat.le_trans (by have := Nat.mul_le_mul_left m k1; omega) mk4
    refine ⟨_, rfl, _, rfl, _, _, rfl, rfl, .inl ⟨by omega, by omega⟩, ?_⟩
    have eN : (m : Int) * (k : Int) = ((m * k : Nat) : Int) := (Int.natCast_mul m k).symm
    dsimp only
    rw [eN]
    generalize hN : m * k = N at mk1 mk4 ⊢
    refine ⟨_, rfl, (N : Int), rfl, by omega, by omega, fun Dd hD => ?_⟩
    have eD := Same.new (o := .lst []) hD
    refine lcN_it (walk_range (lo := 0) (n := ((N : Int)).toNat)) (fun i H' => NAcc H Dd (fun c => cn k (sq st m k c)) (i * N) H') (NAcc.at (c := 0) ⟨eD, upd_same⟩ (by omega)) (fun _ _ _ _ => True.intro) ?_ ?_
    · rintro i x H1 H1' hi R1 ⟨rfl, hx⟩
      have hx : x = V.int (0 + (i : Int)) := hx
      rw [Int.zero_add] at hx
      subst hx
      have hi : i < N := hi
      refine ⟨rfl, ?_⟩
      dsimp only [tYes]
      rw [if_pos rfl]
      refine ⟨_, rfl, (N : Int), rfl, by omega, by omega, ?_⟩
      refine lcN_it (walk_range (lo := 0) (n := ((N : Int)).toNat)) (fun j H' => NAcc H Dd (fun c => cn k (sq st m k c)) (i * N + j) H') R1 (fun _ _ _ _ => True.intro) ?_ ?_
      · rintro j x H2 H2' hj ⟨s2, hd⟩ ⟨rfl, hx⟩
        have hx : x = V.int (0 + (j : Int)) := hx
        rw [Int.zero_add] at hx
        subst hx
        have hj : j < N := hj
        refine ⟨rfl, ?_⟩
        dsimp only [tYes]
        rw [if_pos rfl]
        have hc : i * N + j < N * N := PwM.idx_lt hi hj
        have d1 : (i * N + j) / N = i := by
          rw [Nat.mul_comm, Nat.mul_add_div (by omega), Nat.div_eq_of_lt hj, Nat.add_zero]
        have d2 : (i * N + j) % N = j := by
          rw [Nat.mul_comm, Nat.mul_add_mod, Nat.mod_eq_of_lt hj]
        have hix : i / k * m + j / k < m * m := by
          refine PwM.idx_lt ?_ ?_
          · rw [Nat.div_lt_iff_lt_mul (by omega), hN]; exact hi
          · rw [Nat.div_lt_iff_lt_mul (by omega), hN]; exact hj
        have esq : sq st m k (i * N + j) = (st.getD (i / k * m + j / k) 0, i % k, j % k) := by
          unfold sq
          rw [hN, d1, d2]
        have hst : st.getD (i / k * m + j / k) 0 ≤ 100 := by
          rw [List.getD_eq_getElem?_getD, List.getElem?_eq_getElem (by rw [hl]; exact hix)]
          exact h100 _ (List.getElem_mem ..)
        have ei : ((i : Int) / (k : Int)) * (m : Int) + (j : Int) / (k : Int) = ((i / k * m + j / k : Nat) : Int) := by simp
        have b1 : (i : Int) / (k : Int) = ((i / k : Nat) : Int) := by simp
        have b2 : i / k ≤ i := Nat.div_le_self _ _
        have b3 := Nat.mod_lt i (by omega : 0 < k)
        refine ⟨_, rfl, _, rfl, _, rfl, _, rfl, _, _, rfl, rfl, ⟨by omega, by omega⟩, _, rfl, _, _, rfl, rfl, .inr ⟨by omega, by omega⟩, _, rfl, _, rfl, _, _, rfl, rfl, ⟨by omega, by omega⟩, _, _, rfl, rfl, S, _, _, .int ((st.getD (i / k * m + j / k) 0 : Nat) : Int), rfl, rfl, SqT.up hS s2, ?_, ?_⟩
        · rw [ei]
          refine atI_nat ?_
          unfold natsV
          rw [List.getElem?_map, List.getD_eq_getElem?_getD, List.getElem?_eq_getElem (by rw [hl]; exact hix)]
          rfl
        refine ⟨_, rfl, _, rfl, _, _, rfl, rfl, by omega, _, rfl, _, rfl, _, _, rfl, rfl, by omega, ?_⟩
        have e1 : (i : Int) % (k : Int) = ((i % k : Nat) : Int) := by simp
        have e2 : (j : Int) % (k : Int) = ((j % k : Nat) : Int) := by simp
        dsimp only
        rw [e1, e2]
        refine ⟨k, _, i % k, j % k, rfl, by omega, by omega, by omega, ?_⟩
        refine ⟨_, hd, ?_, ?_, ?_⟩
        · unfold natsV
          rw [List.length_map, List.length_map, List.length_range]
          have : N * N ≤ 4 * 4 := Nat.mul_le_mul mk4 mk4
          exact Nat.lt_of_lt_of_le (by omega : i * N + j < 16) (by decide)
        · intro b o e
          rw [upd_ne (ne_of_none e hD)]
          exact s2 _ _ e
        · rw [upd_same, natsV_snoc, show i * N + (j + 1) = (i * N + j) + 1 from rfl, List.range_succ, List.map_append, List.map_cons, List.map_nil, esq]
      · intro H2 R2
        exact R2.at (by show i * N + N = _; rw [Nat.succ_mul])
    · rintro H1 ⟨s1, hd⟩
      refine kk Dd H1 s1 ?_
      rw [hd]
      unfold ps
      rw [hN]
      rfl
end
end PA

set_option maxHeartbeats 8000000
namespace L2
open PySem PySem.Spec PyProof.Rows
section
variable {X : Cx} {CX : CXT} {k : Nat} {C f g : Addr} {fd : FuncData} {ps : List Str} {sp : Sp} {E : XK} {op : Operator}
/-- an own operator with an int on the right, no reflected one -/
structure OwnU (K : PySem.W.Frag) (C f : Addr) (op : Operator) : Prop where
  first : PySem.W.selfFirst K C = true
  at_ : PySem.W.findIn K (.ref C) (PySem.dunder op.info.2) = some (some (.ref f))
  fn : PySem.W.isFn K (.ref f) = true
  ar : PySem.W.findIn K (.ref C) (dunderR op.info.2) = some none
  sub : PySem.W.subIn K (.type "int") (.ref C) = some false
  h1 : ∃ fo, PySem.W.findIn K (.type "int") (PySem.dunder op.info.2) = some fo
  h2 : ∃ ro, PySem.W.findIn K (.type "int") (dunderR op.info.2) = some ro
theorem op_ownU (O : OwnU X.K C f op) (F : FnOk X.prog X.w X.K X.mg X.base CX k f fd ps sp) (hr : Room k X.A) (hb : Binds X.K fd ps []) (hx : Passes CX X E) :
    OpR X (binaryOp op) (fun x y H Q => ∃ a i dx fs, x = .ref a ∧ y = .int i ∧ H a = some (.ins C dx fs) ∧ sp [.ref a, .int i] H Q E) := by
  intro pins s σ H x y v u Q I rx ry h
  obtain ⟨a, i, dx, fs, rfl, rfl, ha, q⟩ := h
  cases rx
  obtain ⟨t, rfl⟩ := ry
  obtain ⟨mA, J, _⟩ := ins_get I.hok ha
  obtain ⟨od, J, _⟩ := J.look
  obtain ⟨m, hF⟩ := I.fr
  obtain ⟨fo, h1⟩ := O.h1
  obtain ⟨ro, h2⟩ := O.h2
  refine PySem.W.ksp_binT hF I.ok.mod.kin J rfl O.first O.at_ O.fn O.ar (.inl rfl) h1 h2 O.sub ?_
  exact wpAny_mono (run_fn (us := [.ref a, .int i t]) (vs := [.ref a, .int i]) F hr hb .nil hx I (.cons rfl (.cons ⟨t, rfl⟩ .nil)) q) (fun _ _ z => cmpBack_of z) fun _ _ z => z
end
end L2
namespace PA
open PySem L2 RZ
open C8 (pss_cut tCut)
open PwM (cn pst prow dec pw OkQ ps sq)
abbrev sLeast : Stmt := inClass (top 39) 3
abbrev sPow : Stmt := inClass (top 39) 9
def spLeastM (K : PySem.W.Frag) (C : Addr) : Sp := fun vs H Q _ => ∃ (p : Addr) (rn : List Rn) (st : List Nat) (k : Int), vs = [.ref p] ∧ RuleZ K C H p rn st k ∧ GoodN rn st k ∧
  ∀ q H', Same H H' → RuleZ K C H' q (LF.lf rn st).1 (LF.lf rn st).2 k → Q (.ref q) H'
def spPow (K : PySem.W.Frag) (C : Addr) : Sp := fun vs H Q _ => ∃ (p : Addr) (rn : List Rn) (st : List Nat) (m k : Nat), vs = [.ref p, .int (k : Int)] ∧ RuleZ K C H p rn st (m : Int) ∧ GoodN rn st (m : Int) ∧ 1 ≤ k ∧ m * k ≤ 4 ∧ rn.length * k * k ≤ 48 ∧
  ∀ q H', Same H H' → RuleZ K C H' q (LF.lf (pw rn k) (ps st m k)).1 (LF.lf (pw rn k) (ps st m k)).2 ((m * k : Nat) : Int) → Q (.ref q) H'
theorem root_sq {n k : Int} (h : Root n k) : n = k * k := by cases h <;> decide
theorem root_nn {n : Nat} (h1 : 1 ≤ n) (h4 : n ≤ 4) : Root ((n * n : Nat) : Int) (n : Int) := by
  have : n = 1 ∨ n = 2 ∨ n = 3 ∨ n = 4 := by omega
  rcases this with rfl | rfl | rfl | rfl
  · exact .r1
  · exact .r2
  · exact .r3
  · exact .r4
theorem root_m {n : Int} {m : Nat} (h : Root n (m : Int)) : 1 ≤ m ∧ m ≤ 4 := by
  have h : ∀ {n k : Int}, Root n k → 1 ≤ k ∧ k ≤ 4 := fun h => by cases h <;> decide
  have := h ‹Root n (m : Int)›
  omega
theorem GoodN.sq {rn : List Rn} {st : List Nat} {m : Nat} (g : GoodN rn st (m : Int)) : st.length = m * m := by
  have := root_sq g.root
  have e : ((m : Nat) : Int) * (m : Int) = ((m * m : Nat) : Int) := (Int.natCast_mul m m).symm
  rw [e] at this
  omega
theorem GoodN.pow {rn : List Rn} {st : List Nat} {m k : Nat} (g : GoodN rn st (m : Int)) (k1 : 1 ≤ k) (mk : m * k ≤ 4) (h48 : rn.length * k * k ≤ 48) : GoodN (pw rn k) (ps st m k) ((m * k : Nat) : Int) := by
  obtain ⟨m1, m4⟩ := root_m g.root
  exact ⟨PwM.pw_tok g.ok, PwM.ps_lt g.so g.sq, by rw [PwM.pw_len]; exact h48, by rw [PwM.ps_len]; exact root_nn (Nat.mul_le_mul m1 k1) mk⟩
section
variable {P : Program} {w : World} {K : PySem.W.Frag} {mg : Str → Option Value} {base : Heap} {C fI dd g1 g2 g3 g4 f1 f2 f3 f4 f5 f6 f7 : Addr} {dI gd1 gd2 gd3 gd4 d1 d2 d3 d4 d5 d6 d7 : FuncData}
theorem scLeast : FnScope ["self", "rows", "starts"] ["self"] (defScope sLeast) := ⟨rfl, rfl, rfl, by decide +kernel, rfl, by decide +kernel, by decide +kernel⟩
theorem ok_leastM {f : Addr} {fd : FuncData} (F : Fun K "least" "Rule.least" sLeast f fd) (T : Txt K mg C) (I : FunI K fI dI dd) (M : Mk K C fI) (b2 : Binds K dI ["self", "rows", "starts"] []) (D1 : Df K mg "is_integer" sIsInt g1 gd1 ["value"]) (D2 : Df K mg "is_below" sBelow g2 gd2 ["value", "count"]) (D3 : Df K mg "_is_row" sIsRow g3 gd3 ["row", "count"]) (D4 : Df K mg "_check_table" sCheck g4 gd4 ["rows", "starts"])
    (L : LibF K mg f1 f2 f3 f4 f5 f6 f7 d1 d2 d3 d4 d5 d6 d7) : FnOk P w K mg base CX0 7 f fd ["self"] (spLeastM K C) := by
  have GI : FnOk P w K mg base CX0 5 fI dI ["self", "rows", "starts"] (spInit K C) := ok_init I T D1 D2 D3 D4
  have G : FnOk P w K mg base CX0 4 f1 d1 ["rows", "starts"] (spLeastF K) := ok_leastF T L
  refine F.ok scLeast (fun vs H Q E h => ?_) (fun cdv A outer s H vs Q E hr h => ?_)
  · obtain ⟨p, _, _, _, rfl, _⟩ := h
    rfl
  · obtain ⟨p, rn, st, k, rfl, hp, g, kk⟩ := h
    have hr4 : Room 4 _ := hr.mono (by decide)
    refine ⟨_, pss_cons (ps_asg (pe_call G hr4 rfl L.F1.M L.F1.F.kp L.F1.B .nil pass0 (pa_cons (pe_fld (pv 0) rfl) (pa_cons (pe_fld (pv 0) rfl) pa_nil))) (pg_tup rfl (pgs_cons (pg_name (i := 1) scLeast.nd rfl (Or.inl rfl)) (pgs_cons (pg_name (i := 2) scLeast.nd rfl (Or.inl rfl)) pgs_nil))))
      (pss_one (ps_ret (pe_make M GI hr rfl T.mgC b2 .nil pass0 (pa_cons (pv 1) (pa_cons (pv 2) pa_nil))))), ?_⟩
    obtain ⟨r1, r2⟩ := root_ne g.root
    obtain ⟨dx, R, S, refs, hpo, hR, hE, hS⟩ := id hp
    have hE' : Ea H isR refs rn := ⟨by have := hE.1; rw [List.length_map] at this; exact this, fun i x r hx hr => hE.2 i x (rz r) hx (by rw [List.getElem?_map, hr]; rfl)⟩
    have hS' : SqT K H S (natsV st) := by rw [natsV_ints]; exact hS
    refine ⟨_, rfl, p, C, dx, _, _, rfl, hpo, T.cl, T.nR, rf_rows _ _ _, _, rfl, p, C, dx, _, _, rfl, hpo, T.cl, T.nS, rf_starts _ _ _, R, S, .t, .t, refs, rn, st, rfl, SqT.of hR, hE', hS', g.ok, g.so, Nat.le_trans g.most (by decide), by omega, fun t T1 T2 refs' H1 ht hT1 hE1 hT2 s1 => ?_⟩
    refine ⟨t, _, rfl, SqT.of ht, rfl, _, _, rfl, _, _, rfl, rfl, ?_⟩
    have hE2 : Each H1 isLT refs' ((LF.lf rn st).1.map rz) := by
      refine ⟨by rw [List.length_map]; exact hE1.1, fun i x r hx hr => ?_⟩
      rw [List.getElem?_map, Option.map_eq_some_iff] at hr
      obtain ⟨r0, hr, rfl⟩ := hr
      obtain ⟨c, hc, q⟩ := hE1.2 i x r0 hx hr
      exact ⟨c, hc, .inl q⟩
    have hT2' : H1 T2 = some (.tup ((stZ (LF.lf rn st).2).map V.int)) := by rw [← natsV_ints]; exact hT2
    refine ⟨_, rfl, _, rfl, fun x dx nx ndx nex => mk_rule (G := T1) (S := T2) (refs := refs') (.inr (SqT.of hT1)) hE2 (.inr (SqT.of hT2')) g.lf.good nx ndx nex fun H5 s5 r5 => ⟨rfl, kk x H5 (s1.trans s5) r5⟩⟩
theorem scPow : FnScope ["self", "other", "rows", "starts"] ["self", "other"] (defScope sPow) := ⟨rfl, rfl, rfl, by decide +kernel, rfl, by decide +kernel, by decide +kernel⟩
theorem ok_pow {f fL h1 h2 h3 h4 : Addr} {fd dL hd1 hd2 hd3 hd4 : FuncData} (F : Fun K "__pow__" "Rule.__pow__" sPow f fd) (FL : Fun K "least" "Rule.least" sLeast fL dL) (bL : Binds K dL ["self"] []) (mL : Meth K C "least" fL) (T : Txt K mg C) (I : FunI K fI dI dd) (M : Mk K C fI) (b2 : Binds K dI ["self", "rows", "starts"] [])
    (D1 : Df K mg "is_integer" sIsInt g1 gd1 ["value"]) (D2 : Df K mg "is_below" sBelow g2 gd2 ["value", "count"]) (D3 : Df K mg "_is_row" sIsRow g3 gd3 ["row", "count"]) (D4 : Df K mg "_check_table" sCheck g4 gd4 ["rows", "starts"]) (L : LibF K mg f1 f2 f3 f4 f5 f6 f7 d1 d2 d3 d4 d5 d6 d7) (hen : mg "enumerate" = none)
    (mm : ∃ t, mg "MOST_MARKS" = some (.int 4 t)) (E1 : Df K mg "_counted" sCounted h1 hd1 ["k", "state", "ahead", "behind"]) (E2 : Df K mg "_power_row" sPowRow h2 hd2 ["row", "k", "state", "ahead", "behind"]) (E3 : Df K mg "power_rows" sPowRows h3 hd3 ["rows", "k"]) (E4 : Df K mg "power_starts" sPowStarts h4 hd4 ["starts", "marks", "k"]) :
    FnOk P w K mg base CX0 8 f fd ["self", "other"] (spPow K C) := by
  have GI : FnOk P w K mg base CX0 5 fI dI ["self", "rows", "starts"] (spInit K C) := ok_init I T D1 D2 D3 D4
  have GInt : FnOk P w K mg base CX0 1 g1 gd1 ["value"] spIsInt := ok_isInt D1.F T
  have GL : FnOk P w K mg base CX0 7 fL dL ["self"] (spLeastM K C) := ok_leastM FL T I M b2 D1 D2 D3 D4 L
  have GR : FnOk P w K mg base CX0 3 h3 hd3 ["rows", "k"] (spPowRows K) := ok_powRows E3.F T hen E1 E2
  have GS : FnOk P w K mg base CX0 2 h4 hd4 ["starts", "marks", "k"] (spPowStarts K) := ok_powStarts E4.F T E1
  obtain ⟨tm, hmost⟩ := T.most
  obtain ⟨tk, hmm⟩ := mm
  refine F.ok scPow (fun vs H Q E h => ?_) (fun cdv A0 outer s H vs Q E hr h => ?_)
  · obtain ⟨p, _, _, m, k, rfl, _⟩ := h
    rfl
  · obtain ⟨p, rn, st, m, k, rfl, hp, g, k1, mk4, h48, kk⟩ := h
    have hr1 : Room 1 _ := hr.mono (by decide)
    have hr2 : Room 2 _ := hr.mono (by decide)
    have hr3 : Room 3 _ := hr.mono (by decide)
    have hr6 : Room 6 _ := hr.mono (by decide)
    refine ⟨_, pss_cons (ps_if (pt_not (pt_val (pe_call GInt hr1 rfl D1.M D1.F.kp D1.B .nil pass0 (pa_cons (pv 1) pa_nil)))) pss_never pss_nil)
      (pss_cons (ps_if (pt_cmpR op_gt (pe_op op_mul (pe_fld (pv 0) rfl) (pv 1)) (pe_glob (v := .int 4) rfl hmm ⟨_, rfl⟩) (nomark _)) pss_never pss_nil)
      (pss_cons (ps_if (pt_cmpR op_gt (pe_op op_mul (pe_op op_mul (pe_callB call_len_seq (by rfl) T.len_ PySem.boot_len (pa_cons (pe_fld (pv 0) rfl) pa_nil)) (pv 1)) (pv 1)) (pe_glob (v := .int 48) rfl hmost ⟨_, rfl⟩) (nomark _)) pss_never pss_nil)
      (pss_cons (ps_set (i := 2) scPow.nd rfl (Or.inl rfl) (pe_call GR hr3 rfl E3.M E3.F.kp E3.B .nil pass0 (pa_cons (pe_fld (pv 0) rfl) (pa_cons (pv 1) pa_nil))))
      (pss_cons (ps_set (i := 3) scPow.nd rfl (Or.inl rfl) (pe_call GS hr2 rfl E4.M E4.F.kp E4.B .nil pass0 (pa_cons (pe_fld (pv 0) rfl) (pa_cons (pe_fld (pv 0) rfl) (pa_cons (pv 1) pa_nil)))))
      (pss_one (ps_ret (pe_meth0 (pe_make M GI hr6 rfl T.mgC b2 .nil pass0 (pa_cons (pv 2) (pa_cons (pv 3) pa_nil))) T.cl mL GL hr bL .nil pass0))))))), ?_⟩
    obtain ⟨m1, m4⟩ := root_m g.root
    have hsq := g.sq
    obtain ⟨dx, R, S, refs, hpo, hR, hE, hS⟩ := id hp
    have hl : refs.length = rn.length := by have := hE.1; rwa [List.length_map] at this
    have hk4 : k ≤ 4 := Nat.le_trans (by have := Nat.mul_le_mul_right k m1; omega) mk4
    have hn := g.most
    have emk : (m : Int) * (k : Int) = ((m * k : Nat) : Int) := (Int.natCast_mul m k).symm
    have elk : (rn.length : Int) * (k : Int) = ((rn.length * k : Nat) : Int) := (Int.natCast_mul _ k).symm
    have elkk : ((rn.length * k : Nat) : Int) * (k : Int) = ((rn.length * k * k : Nat) : Int) := (Int.natCast_mul _ k).symm
    refine ⟨_, rfl, _, rfl, _, rfl, iteF ?_⟩
    refine ⟨_, rfl, p, C, dx, _, _, rfl, hpo, T.cl, T.nM, rf_marks _ _ _, _, rfl, _, _, rfl, rfl, .inl ⟨by omega, by omega⟩, _, _, rfl, rfl, _, rfl, ifD_no (by rw [emk]; omega) ?_⟩
    refine ⟨_, rfl, p, C, dx, _, _, rfl, hpo, T.cl, T.nR, rf_rows _ _ _, R, _, rfl, .inr (SqT.of hR), ?_⟩
    rw [hl]
    refine ⟨_, rfl, _, _, rfl, rfl, .inl ⟨by omega, by omega⟩, ?_⟩
    dsimp only
    rw [elk]
    refine ⟨_, rfl, _, _, rfl, rfl, .inr ⟨by omega, by omega⟩, _, _, rfl, rfl, _, rfl, ifD_no (by rw [elkk]; omega) ?_⟩
    refine ⟨_, rfl, p, C, dx, _, _, rfl, hpo, T.cl, T.nR, rf_rows _ _ _, _, rfl, R, refs, rn, k, rfl, hR, hE, g.ok, h48, k1, by omega, hn, fun LR refs' H1 s1 hLR hE1 => ?_⟩
    refine ⟨_, rfl, p, C, dx, _, _, rfl, s1 _ _ hpo, T.cl, T.nS, rf_starts _ _ _, _, rfl, p, C, dx, _, _, rfl, s1 _ _ hpo, T.cl, T.nM, rf_marks _ _ _, _, rfl, S, st, m, k, rfl, by rw [natsV_ints]; exact SqT.up hS s1, hsq, fun x hx => by have := g.so x hx; omega, m1, k1, mk4, fun LS H2 s2 hLS => ?_⟩
    have gp := g.pow k1 mk4 h48
    have hE2 : Each H2 isLT refs' ((pw rn k).map rz) := (hE1.sameT s2).imp fun c r q => .inl q
    refine ⟨_, rfl, _, rfl, fun x dx2 nx ndx nex => mk_rule (G := LR) (S := LS) (refs := refs') (.inl (SqL.of (s2 _ _ hLR))) hE2 (.inl (SqL.of (by rw [← natsV_ints]; exact hLS))) gp.good nx ndx nex fun H3 s3 r3 => ⟨rfl, ?_⟩⟩
    obtain ⟨dx3, R3, S3, refs3, hx3, _⟩ := id r3
    refine ⟨x, dx3, _, rfl, hx3, rf_no _ _ _ (by decide +kernel) (by decide +kernel) (by decide +kernel), x, pw rn k, ps st m k, _, rfl, r3, gp, fun q H4 s4 r4 => ?_⟩
    exact kk q H4 (((s1.trans s2).trans s3).trans s4) r4
end
end PA

set_option maxHeartbeats 8000000
namespace PA
open PySem L2 RZ
open C8 (pss_cut tCut)
open RG3 (Nd nd root calls child ringN ordN plN AlkT)
def q3k (q : Nat × Nat × Nat) : LKey := [.num (q.1 : Int), .num (q.2.1 : Int), .num (q.2.2 : Int)]
theorem q3k_inj {n m : Nat × Nat × Nat} (h : q3k n = q3k m) : n = m := by
  obtain ⟨a, b, c⟩ := n
  obtain ⟨a', b', c'⟩ := m
  simp only [q3k, List.cons.injEq, Leaf.num.injEq, and_true] at h
  obtain ⟨h1, h2, h3⟩ := h
  have h1 : a = a' := by omega
  have h2 : b = b' := by omega
  have h3 : c = c' := by omega
  rw [h1, h2, h3]
theorem q3_key {H : Hp} {c : Addr} {n : Nat × Nat × Nat} (h : H c = some (.tup (q3V n))) : KeyAt H c (q3k n) := ⟨_, h, .cons (.inl rfl) (.cons (.inl rfl) (.cons (.inl rfl) .nil))⟩
theorem q3k_val (sn : List (Nat × Nat × Nat)) (n : Nat × Nat × Nat) : (valV (sn.map fun q => (q3k q, V.bl true)) (q3k n)).isSome = decide (n ∈ sn) := by
  induction sn with
  | nil => simp [valV]
  | cons q sn ih =>
    rw [List.map_cons]
    by_cases e : q3k q = q3k n
    · rw [valV_pos e, q3k_inj e]
      simp
    · rw [valV_neg e, ih]
      have : ¬ n = q := fun z => e (by rw [z])
      simp [this]
/-- tuples are kept -/
def TK (H H' : Hp) : Prop := (∀ c ys, H c = some (.tup ys) → H' c = some (.tup ys)) ∧ ∀ c o ys, H c = some (.frz o (.tup ys)) → H' c = some (.frz o (.tup ys))
theorem TK.same {H H' : Hp} (s : Same H H') : TK H H' := ⟨fun c ys e => s _ _ e, fun c o ys e => s _ _ e⟩
theorem TK.lst {H : Hp} {a : Addr} {xs : List V} {o : HO} (h : H a = some (.lst xs)) : TK H (upd H a o) :=
  ⟨fun c ys e => by rw [upd_ne (ne_of e h (by intro z; cases z))]; exact e, fun c o ys e => by rw [upd_ne (ne_of e h (by intro z; cases z))]; exact e⟩
theorem TK.dx {P : Program} {w : World} {H : Hp} {a : Addr} {kvs : List DE} {o : HO} (h : H a = some (DX P w a kvs)) : TK H (upd H a o) :=
  ⟨fun c ys e => by rw [upd_ne (ne_of e h (by intro z; cases z))]; exact e, fun c o ys e => by rw [upd_ne (ne_of e h (by intro z; cases z))]; exact e⟩
theorem TN.tk {H H' : Hp} {a : Addr} {xs : List V} (h : TN H a xs) (k : TK H H') : TN H' a xs := let ⟨o, e, z⟩ := h; ⟨o, k.2 _ _ _ e, z⟩
/-- an entry of the search for a path -/
def isRE (S : RG3.Sys Nd) (A B : List Rn) (W : List Nat) (H : Hp) (c : Addr) (p : Nat) : Prop := ∃ x y cc u q, H c = some (.tup [x, y, .ref cc, .ref u]) ∧ (p < S.M → x = .non ∧ y = .non) ∧ (∀ q k, k < 3 → p = child S q k → ∃ i : Nat, W[i]? = some q ∧ x = .int (i : Int) ∧ y = .int (k : Int)) ∧
  TN H cc (natsV (ordN (nd S p))) ∧ H u = some (.tup (q3V q)) ∧ ringN (nd S p) = false ∧ AlkT A B q (plN (nd S p))
section
variable {S : RG3.Sys Nd} {A B : List Rn} {W W' : List Nat} {H H' : Hp} {c : Addr} {p : Nat}
theorem isRE.way (h : isRE S A B W H c p) : EnW S W H c p := by
  obtain ⟨x, y, cc, u, q, h1, h2, h3, _⟩ := h
  exact ⟨x, y, _, _, h1, h2, h3⟩
theorem isRE.kt (h : isRE S A B W H c p) (kt : TK H H') : isRE S A B W H' c p := by
  obtain ⟨x, y, cc, u, q, h1, h2, h3, h4, h5, h6⟩ := h
  exact ⟨x, y, cc, u, q, kt.1 _ _ h1, h2, h3, h4.tk kt, kt.1 _ _ h5, h6⟩
theorem isRE.grow (h : isRE S A B W H c p) (pre : ∀ i x : Nat, W[i]? = some x → W'[i]? = some x) : isRE S A B W' H c p := by
  obtain ⟨x, y, cc, u, q, h1, h2, h3, h4⟩ := h
  exact ⟨x, y, cc, u, q, h1, h2, fun q k hk e => (h3 q k hk e).elim fun i ⟨z1, z2⟩ => ⟨i, pre _ _ z1, z2⟩, h4⟩
end
theorem pre_app {W ad : List Nat} : ∀ i x : Nat, W[i]? = some x → (W ++ ad)[i]? = some x := fun i x h => by
  rw [List.getElem?_append_left (List.getElem?_eq_some_iff.mp h).1]
  exact h
/-- the list of entries, the dict of the states seen -/
structure RM (P : Program) (w : World) (H H' : Hp) (Wl Dd : Addr) (S : RG3.Sys Nd) (A B : List Rn) (W : List Nat) (qs : List (Nat × Nat × Nat)) (acc : List V) (kvs : List DE) : Prop where
  sm : Same H H'
  hW : H' Wl = some (.lst acc)
  eW : Ea H' (isRE S A B W) acc W
  hD : H' Dd = some (DX P w Dd kvs)
  ka : ∀ p ∈ kvs, KeyAt H' p.2.1 p.1
  em : kvs.map (fun p => (p.1, p.2.2)) = qs.map fun q => (q3k q, V.bl true)
section
variable {P : Program} {w : World} {H H' H2 : Hp} {Wl Dd : Addr} {S : RG3.Sys Nd} {A B : List Rn} {W : List Nat} {qs : List (Nat × Nat × Nat)} {acc : List V} {kvs : List DE}
theorem RM.same (I : RM P w H H' Wl Dd S A B W qs acc kvs) (s : Same H' H2) : RM P w H H2 Wl Dd S A B W qs acc kvs :=
  ⟨I.sm.trans s, s _ _ I.hW, I.eW.imp fun c r q => q.kt (.same s), s _ _ I.hD, fun p hp => (I.ka p hp).kt fun b ys e => s _ _ e, I.em⟩
theorem RM.has (I : RM P w H H' Wl Dd S A B W qs acc kvs) (n : Nat × Nat × Nat) : (valV (kvs.map fun p => (p.1, p.2.2)) (q3k n)).isSome = decide (n ∈ qs) := by
  rw [I.em, q3k_val]
theorem RM.lenK (I : RM P w H H' Wl Dd S A B W qs acc kvs) : kvs.length = qs.length := by
  have := congrArg List.length I.em
  rw [List.length_map, List.length_map] at this
  exact this
theorem RM.no (I : RM P w H H' Wl Dd S A B W qs acc kvs) {n : Nat × Nat × Nat} (h : n ∉ qs) : valV (kvs.map fun p => (p.1, p.2.2)) (q3k n) = none := by
  have := I.has n
  rw [decide_eq_false h] at this
  cases hv : valV (kvs.map fun p => (p.1, p.2.2)) (q3k n) with
  | none => rfl
  | some v => rw [hv] at this; cases this
theorem RM.tkD (I : RM P w H H' Wl Dd S A B W qs acc kvs) {o : HO} : TK H' (upd H' Dd o) := .dx I.hD
theorem RM.tkL (I : RM P w H H' Wl Dd S A B W qs acc kvs) {o : HO} : TK H' (upd H' Wl o) := .lst I.hW
theorem RM.tk (I : RM P w H H' Wl Dd S A B W qs acc kvs) {o : HO} {c : Addr} {ys : List V} (e : H' c = some (.tup ys)) : (upd H' Dd o) c = some (.tup ys) := by
  rw [upd_ne (ne_of e I.hD (by intro z; cases z))]
  exact e
theorem RM.tkW (I : RM P w H H' Wl Dd S A B W qs acc kvs) {o : HO} {c : Addr} {ys : List V} (e : H' c = some (.tup ys)) : (upd H' Wl o) c = some (.tup ys) := by
  rw [upd_ne (ne_of e I.hW (by intro z; cases z))]
  exact e
theorem RM.seen (I : RM P w H H' Wl Dd S A B W qs acc kvs) (nD : H Dd = none) {n : Nat × Nat × Nat} {t : Addr} (ht : H' t = some (.tup (q3V n))) : RM P w H (upd H' Dd (DX P w Dd (kvs ++ [(q3k n, t, V.bl true)]))) Wl Dd S A B W (qs ++ [n]) acc (kvs ++ [(q3k n, t, V.bl true)]) := by
  refine ⟨fun c o e => ?_, ?_, I.eW.imp fun c r q => q.kt I.tkD, upd_same, fun p hp => ?_, ?_⟩
  · rw [upd_ne (ne_of_none e nD)]
    exact I.sm _ _ e
  · rw [upd_ne (ne_of I.hW I.hD (by intro z; cases z))]
    exact I.hW
  · rcases List.mem_append.mp hp with hp | hp
    · exact (I.ka p hp).kt fun c ys e => I.tk e
    · cases List.mem_singleton.mp hp
      exact (q3_key ht).kt fun c ys e => I.tk e
  · rw [List.map_append, List.map_append, I.em]
    rfl
theorem RM.app (I : RM P w H H' Wl Dd S A B W qs acc kvs) (nW : H Wl = none) {c : Addr} {p : Nat} (hc : isRE S A B (W ++ [p]) H' c p) : RM P w H (upd H' Wl (.lst (acc ++ [.ref c]))) Wl Dd S A B (W ++ [p]) qs (acc ++ [.ref c]) kvs := by
  refine ⟨fun b o e => ?_, upd_same, Ea.push (I.eW.imp fun c r q => (q.kt I.tkL).grow pre_app) (hc.kt I.tkL), ?_, fun p hp => (I.ka p hp).kt fun c ys e => I.tkW e, I.em⟩
  · rw [upd_ne (ne_of_none e nW)]
    exact I.sm _ _ e
  · rw [upd_ne (ne_of I.hW I.hD (by intro z; cases z)).symm]
    exact I.hD
end
/-- what was put in, and the keys -/
structure RJ (S : RG3.Sys Nd) (A B : List Rn) (W : List Nat) (qs : List (Nat × Nat × Nat)) : Prop where
  nq : qs.Nodup
  kq : ∀ q ∈ qs, ∃ r ∈ W, ringN (nd S r) = false ∧ AlkT A B q (plN (nd S r))
  len : W.length = S.M + qs.length
  pre : ∃ T, W = List.range S.M ++ T ∧ ∀ x ∈ T, S.M ≤ x
section
variable {S : RG3.Sys Nd} {A B : List Rn} {W : List Nat} {qs : List (Nat × Nat × Nat)}
theorem RJ.few (j : RJ S A B W qs) : qs.length ≤ A.length * A.length * A.length := RG3.qfew A.length j.nq fun q hq => by
  obtain ⟨r, _, _, h⟩ := j.kq q hq
  exact ⟨h.1.1, h.2.1.1, h.2.2.1⟩
theorem RJ.push (j : RJ S A B W qs) {q : Nat × Nat × Nat} {p : Nat} (hn : q ∉ qs) (hM : S.M ≤ p) (h1 : ringN (nd S p) = false) (h2 : AlkT A B q (plN (nd S p))) : RJ S A B (W ++ [p]) (qs ++ [q]) := by
  refine ⟨LF.nodup_snoc j.nq hn, fun x hx => ?_, ?_, ?_⟩
  · rcases List.mem_append.mp hx with h | h
    · obtain ⟨r, hr, z⟩ := j.kq x h
      exact ⟨r, List.mem_append_left _ hr, z⟩
    · rw [List.mem_singleton.mp h]
      exact ⟨p, List.mem_append_right _ (List.mem_singleton.mpr rfl), h1, h2⟩
  · rw [List.length_append, List.length_append, j.len]
    rfl
  · obtain ⟨T, e, h⟩ := j.pre
    refine ⟨T ++ [p], by rw [e, List.append_assoc], fun x hx => ?_⟩
    rcases List.mem_append.mp hx with h' | h'
    · exact h x h'
    · rw [List.mem_singleton.mp h']
      exact hM
theorem RJ.root_ix (j : RJ S A B W qs) : ∀ i q : Nat, W[i]? = some q → q < S.M → i = q := fun i q hi hq => by
  obtain ⟨T, e, h⟩ := j.pre
  rw [e] at hi
  rcases Nat.lt_or_ge i S.M with l | l
  · rw [List.getElem?_append_left (by rw [List.length_range]; exact l), List.getElem?_range l] at hi
    injection hi
  · rw [List.getElem?_append_right (by rw [List.length_range]; exact l)] at hi
    have := h q (List.mem_of_getElem? hi)
    omega
theorem RJ.init : RJ S A B (List.range S.M) [] :=
  ⟨List.nodup_nil, (fun q hq => (List.not_mem_nil hq).elim), by rw [List.length_range]; rfl, [], by rw [List.append_nil], fun x hx => (List.not_mem_nil hx).elim⟩
end
/-- what a search for rings gives back for the first path and call -/
def RingV (H : Hp) (S : RG3.Sys Nd) (m : Nat) : Option (Nat × Nat) → V → Prop
  | none, v => v = .non
  | some (e, c), v => ∃ t u cc, v = .ref t ∧ H t = some (.tup [.ref u, .ref cc]) ∧ isQ3 H u (triN m (root S e)) ∧ H cc = some (.tup (natsV (calls S e ++ [c])))
def spRing (K : PySem.W.Frag) (C : Addr) : Sp := fun vs H Q _ => ∃ (p : Addr) (B : List Rn) (st : List Nat) (m : Nat) (ok : LF.TOk B) (hm : 0 < m), vs = [.ref p] ∧ RuleZ K C H p B st (m : Int) ∧ (∀ s ∈ st, s < B.length) ∧ st.length = m * m ∧ m ≤ 4 ∧ B.length ≤ 16 ∧
  ∀ o v H', Same H H' → RG3.Res (RG3.ringSys B st m ok hm) o → (∀ e c, o = some (e, c) → (calls (RG3.ringSys B st m ok hm) e).length ≤ 4200) → RingV H' (RG3.ringSys B st m ok hm) m o v → Q v H'
end PA

set_option maxHeartbeats 8000000
namespace PA
open PySem L2 RZ
open C8 (pss_cut tCut)
open RG3 (Nd nd root calls child ringN ordN plN AlkT)
abbrev sRing : Stmt := top 17
abbrev NRing : List Str := ["rule", "rows", "starts", "triples", "entries", "seen", "done", "_", "cases", "states", "call", "after", "begin", "calls", "place", "states_after", "marks"]
def RInv (P : Program) (w : World) (H : Hp) (p t1 t2 t3 Wl Dd : Addr) (S : RG3.Sys Nd) (A B : List Rn) (m : Nat) (σ' : List (Option V)) (H' : Hp) : Prop := ∃ (d : Nat) (W X : List Nat) (qs : List (Nat × Nat × Nat)) (acc : List V) (kvs : List DE) (x7 x8 x9 x10 x11 x12 x13 x14 x15 : Option V),
  σ' = [some (.ref p), some (.ref t1), some (.ref t2), some (.ref t3), some (.ref Wl), some (.ref Dd), some (.int ((d : Nat) : Int)), x7, x8, x9, x10, x11, x12, x13, x14, x15, none] ∧ RM P w H H' Wl Dd S A B W qs acc kvs ∧ RJ S A B W qs ∧ RG3.BI S W d X ∧ d ≤ W.length ∧ d + m = S.M + A.length * A.length * A.length
section
variable {P : Program} {w : World} {K : PySem.W.Frag} {mg : Str → Option Value} {base : Heap} {C f1 f2 f3 f4 f5 f6 f7 gT gF gA gC gM gW : Addr} {d1 d2 d3 d4 d5 d6 d7 eT eF eA eC eM eW : FuncData}
theorem scRing : FnScope NRing ["rule"] (defScope sRing) := ⟨rfl, rfl, rfl, by decide +kernel, rfl, by decide +kernel, by decide +kernel⟩
theorem ok_ring {f : Addr} {fd : FuncData} (F : Fun K "ring" "ring" sRing f fd) (T : Txt K mg C) (TP : TxtP mg K) (L : LibF K mg f1 f2 f3 f4 f5 f6 f7 d1 d2 d3 d4 d5 d6 d7) (DT : Df K mg "_mark_triples" sTriples gT eT ["marks"]) (DF : Df K mg "_first_states" sFirst gF eF ["starts", "marks", "triple"])
    (DA : Df K mg "_after" sAfter gA eA ["rows", "states", "place"]) (DC : Df K mg "_called" sCalled gC eC ["row", "behind"]) (DM : Df K mg "_moved" sMovedC gM eM ["cases", "case", "place"]) (DW : Df K mg "way_to" sWay gW eW ["entries", "at"]) : FnOk P w K mg base CX0 5 f fd ["rule"] (spRing K C) := by
  have GL : FnOk P w K mg base CX0 4 f1 d1 ["rows", "starts"] (spLeastF K) := ok_leastF T L
  have GT : FnOk P w K mg base CX0 1 gT eT ["marks"] spTriples := ok_triples DT.F T
  have GF : FnOk P w K mg base CX0 1 gF eF ["starts", "marks", "triple"] spFirst := ok_first DF.F
  have GA : FnOk P w K mg base CX0 2 gA eA ["rows", "states", "place"] spAfter := ok_after DA.F TP DC
  have GM : FnOk P w K mg base CX0 1 gM eM ["cases", "case", "place"] (spMovedC K) := ok_movedC DM.F T
  have GW : FnOk P w K mg base CX0 1 gW eW ["entries", "at"] spWay := ok_way DW.F T
  refine F.ok scRing (fun vs H Q E h => ?_) (fun cdv A0 outer s H vs Q E hr h => ?_)
  · obtain ⟨p, _, _, _, _, _, rfl, _⟩ := h
    rfl
  · obtain ⟨p, B, st, m, okB, hm, rfl, rB, sB, hst, m4, lB, kk⟩ := h
    have hu := u1 hr.units
    have hr1 : Room 1 _ := hr.mono (by decide)
    have hr2 : Room 2 _ := hr.mono (by decide)
    refine ⟨_, pss_cons (ps_asg (pe_call GL hr rfl L.F1.M L.F1.F.kp L.F1.B .nil pass0 (pa_cons (pe_fld (pv 0) rfl) (pa_cons (pe_fld (pv 0) rfl) pa_nil))) (pg_tup rfl (pgs_cons (pg_name (i := 1) scRing.nd rfl (Or.inl rfl)) (pgs_cons (pg_name (i := 2) scRing.nd rfl (Or.inr rfl)) pgs_nil))))
      (pss_cons (ps_set (i := 3) scRing.nd rfl (Or.inl rfl) (pe_call GT hr1 rfl DT.M DT.F.kp DT.B .nil pass0 (pa_cons (pe_fld (pv 0) rfl) pa_nil)))
      (pss_cons (ps_setLc (i := 4) (own := [("marks", 16)]) (g := gName 16) (tt := tYes) (by rfl) scRing.nd rfl rfl (sw_true rfl rfl rfl (by decide +kernel)) (pi_list (pv 3)) (blkOk_by (N := NRing) (sc := defScope sRing) (by decide +kernel))
          (fun _ _ _ _ _ => pg_name (i := 16) scRing.nd rfl (Or.inl rfl)) (fun _ _ _ _ _ => pts_nil)
          (fun _ _ _ _ _ => pe_tup (pa_cons pe_non (pa_cons pe_non (pa_cons (pe_tupN (pa_cons pe_int (pa_cons pe_int (pa_cons pe_int pa_nil)))) (pa_cons (pe_call GF hr1 rfl DF.M DF.F.kp DF.B .nil pass0 (pa_cons (pv 2) (pa_cons (pe_fldF (K := K) rfl (pv 0) rfl) (pa_cons (pv 16) pa_nil)))) pa_nil))))))
      (pss_cons (ps_set (i := 5) scRing.nd rfl (Or.inl rfl) pe_dnewX)
      (pss_cons (ps_set (i := 6) scRing.nd rfl (Or.inl rfl) pe_int)
      (pss_cons (ps_while PassesOwn.never (pt_cmpR op_lt (pv 6) (pe_callB call_len_seq (by rfl) T.len_ PySem.boot_len (pa_cons (pv 4) pa_nil)) (nomark _))
        (pss_cons (ps_asg (pe_ix ix_list (pv 4) (pv 6) (fun _ _ => rfl)) (pg_tup rfl (pgs_cons (pg_name (i := 7) scRing.nd rfl (Or.inl rfl)) (pgs_cons (pg_name (i := 7) scRing.nd rfl (Or.inl rfl)) (pgs_cons (pg_name (i := 8) scRing.nd rfl (Or.inl rfl)) (pgs_cons (pg_name (i := 9) scRing.nd rfl (Or.inl rfl)) pgs_nil))))))
        (pss_cons (ps_for PassesOwn.never rfl (pi_tup (pe_tup (pa_cons pe_int (pa_cons pe_int (pa_cons pe_int pa_nil))))) (pg_name (i := 10) scRing.nd rfl (Or.inl rfl))
          (pss_cons (ps_set (i := 11) scRing.nd rfl (Or.inl rfl) (pe_call GA hr2 rfl DA.M DA.F.kp DA.B .nil pass0 (pa_cons (pv 1) (pa_cons (pv 9) (pa_cons (pe_bmN PySem.F.slot_tuple_index PySem.F.type_tuple_index mt_indexT (pv 8) (pa_cons (pv 10) pa_nil)) pa_nil)))))
          (pss_cons (ps_if (pt_cmp (pc_isN (pv 11)))
            (pss_cons (ps_asg (pe_call GW hr1 rfl DW.M DW.F.kp DW.B .nil pass0 (pa_cons (pv 4) (pa_cons (pv 6) pa_nil))) (pg_tup rfl (pgs_cons (pg_name (i := 12) scRing.nd rfl (Or.inl rfl)) (pgs_cons (pg_name (i := 13) scRing.nd rfl (Or.inl rfl)) pgs_nil))))
            (pss_one (ps_ret (pe_tup (pa_cons (pe_ix ix_list (pv 3) (pv 12) (fun _ _ => rfl)) (pa_cons (pe_op op_catA (pv 13) (pe_tup (pa_cons (pv 10) pa_nil))) pa_nil)))))) pss_nil)
          (pss_cons (ps_asg (pv 11) (pg_tup rfl (pgs_cons (pg_name (i := 14) scRing.nd rfl (Or.inl rfl)) (pgs_cons (pg_name (i := 15) scRing.nd rfl (Or.inl rfl)) pgs_nil))))
          (pss_one (ps_if (pt_cmpR (op_notIn_dx hu) (pv 15) (pv 5) rfl)
            (pss_cons (ps_asg pe_bl (pg_sub (pv 5) (pv 15) (set_dx hu)))
            (pss_one (ps_expr (pe_bm PySem.F.plainAttrs_list PySem.F.slot_list_append PySem.F.type_list_append mt_append (pv 4) (pa_cons (pe_tup (pa_cons (pv 6) (pa_cons (pv 10) (pa_cons (pe_call GM hr1 rfl DM.M DM.F.kp DM.B .nil pass0 (pa_cons (pv 8) (pa_cons (pv 10) (pa_cons (pv 14) pa_nil)))) (pa_cons (pv 15) pa_nil))))) pa_nil))))) pss_nil))))))
        (pss_one (ps_aug (i := 6) scRing.nd rfl (Or.inl rfl) pe_int ip_add)))))
      (pss_one (ps_ret pe_non))))))), ?_⟩
    obtain ⟨dx, Rr, Sr, refs, hp, hR, hE, hS⟩ := id rB
    have hE' : Ea H isR refs B := ⟨by have := hE.1; rw [List.length_map] at this; exact this, fun i x r hx hr => hE.2 i x (rz r) hx (by rw [List.getElem?_map, hr]; rfl)⟩
    have hS' : SqT K H Sr (natsV st) := by rw [natsV_ints]; exact hS
    have mm : m * m ≤ 4 * 4 := Nat.mul_le_mul m4 m4
    have mmm : m * m * m ≤ 4 * 4 * 4 := Nat.mul_le_mul mm m4
    have okA := LF.laid_ok okB sB
    have lfl := LF.lf_le okB sB
    have rr := RG3.lf_rr okB sB hst
    have sl : (LF.lf B st).2.length = m * m := by rw [LF.lf_len, hst]
    refine ⟨_, rfl, p, C, dx, _, _, rfl, hp, T.cl, T.nR, rf_rows _ _ _, _, rfl, p, C, dx, _, _, rfl, hp, T.cl, T.nS, rf_starts _ _ _, Rr, Sr, .t, .t, refs, B, st, rfl, SqT.of hR, hE', hS', okB, sB, by omega, by omega, fun t T1 T2 refs' H1 ht hT1 hE1 hT2 s1 => ?_⟩
    refine ⟨t, _, rfl, SqT.of ht, rfl, _, _, rfl, _, _, rfl, rfl, ?_⟩
    generalize hA : (LF.lf B st).1 = A at okA lfl rr hE1
    generalize hst' : (LF.lf B st).2 = st' at rr sl hT2
    have LA : A.length * A.length * A.length ≤ 16 * 16 * 16 := Nat.mul_le_mul (Nat.mul_le_mul (by omega) (by omega)) (by omega)
    refine ⟨_, rfl, p, C, dx, _, _, rfl, s1 _ _ hp, T.cl, T.nM, rf_marks _ _ _, m, rfl, hm, m4, fun L3 refs3 H2 s2 hL3 hE3 => ?_⟩
    have s12 := s1.trans s2
    have hT12 := s2 _ _ hT1
    have hT22 := s2 _ _ hT2
    have hE2 : Each H2 isT refs' (A.map rz) := by
      refine ⟨by rw [List.length_map]; exact hE1.1, fun i x r hx hr => ?_⟩
      rw [List.getElem?_map, Option.map_eq_some_iff] at hr
      obtain ⟨r0, hr, rfl⟩ := hr
      obtain ⟨c, hc, q⟩ := hE1.2 i x r0 hx hr
      exact ⟨c, hc, s2 _ _ q⟩
    have l3 : refs3.length = m * m * m := by rw [hE3.1, List.length_map, List.length_range]
    refine ⟨_, rfl, L3, rfl, ⟨_, SqL.of hL3⟩, fun Wl hW => ?_⟩
    have eWl := Same.new (o := .lst []) hW
    refine lc_list (xs := refs3) (fun i H' => Same H2 H' ∧ ∃ acc, H' Wl = some (.lst acc) ∧ Ea H' (isRE (RG3.ringSys B st m okB hm) A B (List.range (m * m * m))) acc (List.range i)) ?_ ?_ ?_ ?_
    · exact ⟨eWl, [], upd_same, Ea.nil⟩
    · rintro i H' _ ⟨s', _⟩
      exact SqL.of (s' _ _ hL3)
    · rintro i x H3 hx ⟨s3, acc, hd, he⟩
      have hi : i < m * m * m := by rw [← l3]; exact (List.getElem?_eq_some_iff.mp hx).1
      obtain ⟨c, rfl, hc⟩ := hE3.2 i x (triN m i) hx (by rw [List.getElem?_map, List.getElem?_range hi]; rfl)
      have ha : i / (m * m) < m := Nat.div_lt_of_lt_mul hi
      have hb : i / m % m < m := Nat.mod_lt _ hm
      have hcc' : i % m < m := Nat.mod_lt _ hm
      refine ⟨rfl, ?_⟩
      dsimp only [tYes]
      rw [if_pos rfl]
      refine ⟨by show 3 ≤ sizeLine; decide, fun cc oc hcc oc1 oc2 => ?_⟩
      have e0 := Same.new (o := .frz oc (.tup [V.int 0, .int 1, .int 2])) hcc
      have gcc : TN (upd H3 cc (.frz oc (.tup [V.int 0, .int 1, .int 2]))) cc [V.int 0, .int 1, .int 2] := ⟨oc, upd_same, oc1, oc2⟩
      have hd0 := e0 _ _ hd
      generalize (upd H3 cc (.frz oc (.tup [V.int 0, .int 1, .int 2]))) = H4 at e0 gcc hd0 ⊢
      have t4 := s3.trans e0
      refine ⟨_, rfl, _, rfl, p, C, dx, _, _, rfl, t4 _ _ (s12 _ _ hp), T.cl, T.nM, rf_marks _ _ _, _, rfl, T2, c, st', m, triN m i, rfl, t4 _ _ hT22, t4 _ _ hc, sl, m4, ha, hb, hcc', fun u H5 s5 hu5 => ?_⟩
      refine ⟨by show 4 ≤ sizeLine; decide, fun t1 h1 => ?_⟩
      have e1 := Same.new (o := .tup [V.non, .non, .ref cc, .ref u]) h1
      have g1 : (upd H5 t1 (.tup [V.non, .non, .ref cc, .ref u])) t1 = some (.tup [V.non, .non, .ref cc, .ref u]) := upd_same
      have hd5 := e1 _ _ (s5 _ _ hd0)
      have gcc5 := (gcc.same s5).same e1
      have hu6 := e1 _ _ hu5
      generalize (upd H5 t1 (.tup [V.non, .non, .ref cc, .ref u])) = H6 at e1 g1 hd5 gcc5 hu6 ⊢
      obtain ⟨w1, w2, w3⟩ := RG3.root_alk (A := A) (B := B) rr hm hi
      have hRE : isRE (RG3.ringSys B st m okB hm) A B (List.range (m * m * m)) H6 t1 i := by
        have en : nd (RG3.ringSys B st m okB hm) i = RG3.rootN st m i := RG3.nd_root hi
        refine ⟨.non, .non, cc, u, _, g1, fun _ => ⟨rfl, rfl⟩, fun q k hk e => ?_, ?_, hu6, ?_, ?_⟩
        · have := RG3.child_ge (S := RG3.ringSys B st m okB hm) q k
          have hi' : i < (RG3.ringSys B st m okB hm).M := hi
          omega
        · rw [en, w2]
          exact gcc5
        · rw [en]
          exact w1
        · rw [en]
          exact w3
      have s6 := ((s3.trans e0).trans s5).trans e1
      refine ⟨acc, hd5, ?_, ?_, acc ++ [.ref t1], upd_same, ?_⟩
      · rw [he.1, List.length_range]
        exact Nat.lt_of_lt_of_le (by omega : i < 64) (by decide)
      · intro b o e
        rw [upd_ne (ne_of_none e hW)]
        exact s6 _ _ e
      · rw [List.range_succ]
        exact (he.imp fun b r q => (q.kt (.same ((e0.trans s5).trans e1))).kt (.lst hd5)).push (hRE.kt (.lst hd5))
    rintro H3 ⟨s3, acc0, hW3, eW3⟩
    rw [l3] at eW3
    intro Dd hDn
    have eD := Same.new (o := DX P w Dd []) hDn
    have nD : H2 Dd = none := L2.Same.none s3 hDn
    refine ⟨RInv P w H2 p T1 T2 L3 Wl Dd (RG3.ringSys B st m okB hm) A B, ⟨m * m * m + A.length * A.length * A.length, 0, List.range (m * m * m), [], [], acc0, [], none, none, none, none, none, none, none, none, none, rfl, ?_, RJ.init, RG3.BI.init, Nat.zero_le _, Nat.zero_add _⟩, ?_⟩
    · exact ⟨s3.trans eD, eD _ _ hW3, eW3.imp fun c r q => q.kt (.same eD), upd_same, fun p hp => (List.not_mem_nil hp).elim, rfl⟩
    rintro n0 _ H4 ⟨d, W, X, qs, acc, kvs, x7, x8, x9, x10, x11, x12, x13, x14, x15, rfl, I, J, b, hdl, hdm⟩
    have hal : acc.length = W.length := I.eW.1
    have fq := J.few
    have lenW := J.len
    have eM : (RG3.ringSys B st m okB hm).M = m * m * m := rfl
    refine ⟨_, rfl, _, rfl, Wl, _, rfl, .inl (SqL.of I.hW), _, _, rfl, rfl, _, rfl, ifD_2 (fun hlt => ?_) (fun hge => ?_)⟩
    · have hlt' : d < W.length := by omega
      refine ⟨fun σ' H' => ∃ m', m' < n0 ∧ RInv P w H2 p T1 T2 L3 Wl Dd (RG3.ringSys B st m okB hm) A B m' σ' H', fun _ _ h => h, ?_⟩
      have he : W[d]? = some W[d] := List.getElem?_eq_getElem hlt'
      generalize W[d] = e at he
      obtain ⟨c, hc, x, y, cc, u, q, hcT, _, _, hcc, hu5, hrn, hak⟩ := I.eW.get he
      refine ⟨_, rfl, _, rfl, Wl, acc, ((d : Nat) : Int), .ref c, rfl, rfl, SqL.of I.hW, atI_nat hc, ?_⟩
      refine ⟨c, _, rfl, SqT.of hcT, rfl, _, _, rfl, _, _, rfl, _, _, rfl, _, _, rfl, rfl, ?_⟩
      refine ⟨by show 3 ≤ sizeLine; decide, fun tp htp => ⟨tp, rfl, ⟨_, SqT.of upd_same⟩, ?_⟩⟩
      have e4 := Same.new (o := .tup [V.int 0, .int 1, .int 2]) htp
      have I4 := I.same e4
      have hcc4 := hcc.same e4
      have hu4 := e4 _ _ hu5
      have gtp : (upd H4 tp (.tup [V.int 0, .int 1, .int 2])) tp = some (.tup [V.int 0, .int 1, .int 2]) := upd_same
      generalize (upd H4 tp (.tup [V.int 0, .int 1, .int 2])) = H5 at I4 hcc4 hu4 gtp ⊢
      have hcl := b.calls_le d e he
      refine for_tup (K := K) (a := tp) (xs := [V.int 0, .int 1, .int 2]) (fun j σ' H' => ∃ (ad : List Nat) (qs : List (Nat × Nat × Nat)) (acc : List V) (kvs : List DE) (x7 x10 x11 x12 x13 x14 x15 : Option V), σ' = [some (.ref p), some (.ref T1), some (.ref T2), some (.ref L3), some (.ref Wl), some (.ref Dd), some (.int ((d : Nat) : Int)), x7, some (.ref cc), some (.ref u), x10, x11, x12, x13, x14, x15, none] ∧ RM P w H2 H' Wl Dd (RG3.ringSys B st m okB hm) A B (W ++ ad) qs acc kvs ∧ RJ (RG3.ringSys B st m okB hm) A B (W ++ ad) qs ∧ ad.Pairwise (· < ·) ∧ (∀ x ∈ ad, ∃ k, k < j ∧ x = child (RG3.ringSys B st m okB hm) e k) ∧ (∀ k, k < j → ¬ RG3.Pt (RG3.ringSys B st m okB hm) e k ∧ ∃ r ∈ W ++ ad, r ≤ child (RG3.ringSys B st m okB hm) e k ∧ (RG3.ringSys B st m okB hm).Rel (nd (RG3.ringSys B st m okB hm) (child (RG3.ringSys B st m okB hm) e k)) (nd (RG3.ringSys B st m okB hm) r)) ∧ H' tp = some (.tup [V.int 0, .int 1, .int 2]) ∧ TN H' cc (natsV (ordN (nd (RG3.ringSys B st m okB hm) e))) ∧ H' u = some (.tup (q3V q))) ?_ ?_ ?_ ?_
      · refine ⟨[], qs, acc, kvs, _, _, _, _, _, _, _, rfl, ?_, ?_, List.Pairwise.nil, (fun x hx => (List.not_mem_nil hx).elim), (fun k hk => absurd hk (Nat.not_lt_zero _)), gtp, hcc4, hu4⟩
        · rw [List.append_nil]
          exact I4
        · rw [List.append_nil]
          exact J
      · rintro j σ' H' _ ⟨_, _, _, _, _, _, _, _, _, _, _, _, _, _, _, _, _, ht, _⟩
        exact SqT.of ht
      · rintro j x _ H6 hx ⟨ad, qs6, acc6, kvs6, x7, x10, x11, x12, x13, x14, x15, rfl, I6, J6, so, sub, ch, htp6, hcc6, hu6⟩
        have hj : j < 3 := (List.getElem?_eq_some_iff.mp hx).1
        obtain rfl : x = V.int (j : Int) := by
          rcases j with _ | _ | _ | j
          · cases hx; rfl
          · cases hx; rfl
          · cases hx; rfl
          · omega
        have hix := RG3.ix_at (RG3.ord_mem (nd (RG3.ringSys B st m okB hm) e) hj)
        have hixl := RG3.ord_ix (nd (RG3.ringSys B st m okB hm) e) hj
        have flt : (natsV (ordN (nd (RG3.ringSys B st m okB hm) e))).all flatV = true := by
          unfold natsV
          rw [List.all_map]
          exact List.all_eq_true.mpr fun _ _ => rfl
        have al6 := I6.eW.1
        have lenW6 := J6.len
        have fq6 := J6.few
        refine ⟨_, rfl, _, rfl, _, rfl, ⟨cc, _, rfl, hcc6⟩, _, rfl, cc, natsV (ordN (nd (RG3.ringSys B st m okB hm) e)), .int (j : Int), LF.ix (ordN (nd (RG3.ringSys B st m okB hm) e)) j, .int (j : Int), rfl, rfl, hcc6.sq, rfl, flt, ?_, ?_, ?_, ?_⟩
        · unfold natsV
          rw [List.getElem?_map, hix.1]
          rfl
        · simp [eqV]
        · intro m' z' hm' hz'
          unfold natsV at hz'
          rw [List.getElem?_map, Option.map_eq_some_iff] at hz'
          obtain ⟨w', hw', rfl⟩ := hz'
          have := hix.2 m' w' hm' hw'
          simp [eqV]
          omega
        refine ⟨T1, u, refs', A, q, LF.ix (ordN (nd (RG3.ringSys B st m okB hm) e)) j, rfl, I6.sm _ _ hT12, hE2.sameT I6.sm, hu6, hixl, hak.1.1, hak.2.1.1, hak.2.2.1, fun v H7 s7 hv => ?_⟩
        have I7 := I6.same s7
        have hcc7 := hcc6.same s7
        have hu7 := s7 _ _ hu6
        have htp7 := s7 _ _ htp6
        have lp := RG3.lead_place okA okB hrn hak hj
        have laft := @RG3.aft_lt A q
        generalize haft : RG3.aft A q (LF.ix (ordN (nd (RG3.ringSys B st m okB hm) e)) j) = o at hv lp
        match o, haft, hv, lp with
        | none, _, hv, lp =>
          obtain rfl := hv
          refine ⟨_, rfl, _, rfl, ?_⟩
          rw [decide_eq_true rfl]
          refine iteT ?_
          refine ⟨_, rfl, _, rfl, Nd, (RG3.ringSys B st m okB hm), W ++ ad, Wl, acc6, d, e, rfl, I7.hW, I7.eW.imp fun c r q => q.way, J6.root_ix, pre_app _ _ he, by omega, fun u2 t2 H8 s8 hu8 ht8 => ?_⟩
          refine ⟨u2, _, rfl, SqT.of hu8, rfl, _, _, rfl, _, _, rfl, rfl, ?_⟩
          have hroot : root (RG3.ringSys B st m okB hm) e < m * m * m := RG3.root_lt (S := (RG3.ringSys B st m okB hm)) e
          obtain ⟨c3, hc3, hq3⟩ := hE3.get (i := root (RG3.ringSys B st m okB hm) e) (r := triN m (root (RG3.ringSys B st m okB hm) e)) (by rw [List.getElem?_map, List.getElem?_range hroot]; rfl)
          have I8 := I7.same s8
          refine ⟨_, rfl, _, rfl, L3, refs3, ((root (RG3.ringSys B st m okB hm) e : Nat) : Int), .ref c3, rfl, rfl, SqL.of (I8.sm _ _ hL3), atI_nat hc3, ?_⟩
          refine ⟨_, rfl, _, rfl, by show 1 ≤ sizeLine; decide, fun t5 h5 => catA (xs := natsV (calls (RG3.ringSys B st m okB hm) e)) (ys := [V.int (j : Int)]) (Same.new h5 _ _ ht8) upd_same ?_ (by intro z; cases z) fun pc H9 s9 hpc => ⟨by show 2 ≤ sizeLine; decide, fun t6 h6 => ?_⟩⟩
          · unfold natsV
            rw [List.length_map]
            exact Nat.le_trans (Nat.add_le_add_right (by omega : (calls (RG3.ringSys B st m okB hm) e).length ≤ 4200) 1) (by decide)
          have s9' := ((Same.new (o := .tup [V.int (j : Int)]) h5).trans s9).trans (Same.new (o := .tup [.ref c3, .ref pc]) h6)
          refine kk (some (e, j)) _ _ (s12.trans (I8.sm.trans s9')) (b.found he hj lp fun k hk => (ch k hk).1) (fun e' c' z => by cases z; omega) ⟨t6, c3, pc, rfl, upd_same, ?_, ?_⟩
          · exact (I8.sm.trans s9') _ _ hq3
          · rw [Same.new h6 _ _ hpc]
            unfold natsV
            rw [List.map_append]
            rfl
        | some (k', r), haft, hv, lp =>
          have hk2 := laft haft
          obtain ⟨t, u', rfl, ht7, hu8⟩ := hv
          obtain ⟨lp1, lp2, lp3⟩ := lp
          refine ⟨_, rfl, _, rfl, ?_⟩
          rw [decide_eq_false (by intro z; cases z)]
          refine iteF ?_
          refine ⟨_, rfl, t, _, rfl, SqT.of ht7, rfl, _, _, rfl, _, _, rfl, rfl, ?_⟩
          refine ⟨_, rfl, _, rfl, Dd, u', _, q3k r, rfl, rfl, ⟨kvs6, I7.hD, rfl, I7.ka⟩, q3_key hu8, _, rfl, ?_⟩
          rw [I7.has]
          have en : nd (RG3.ringSys B st m okB hm) (child (RG3.ringSys B st m okB hm) e j) = RG3.stp B (nd (RG3.ringSys B st m okB hm) e) j := RG3.nd_child hj
          have hnp : ¬ RG3.Pt (RG3.ringSys B st m okB hm) e j := fun z => by
            have z : ringN (RG3.stp B (nd (RG3.ringSys B st m okB hm) e) j) = true := z
            rw [lp1] at z
            cases z
          by_cases hin : r ∈ qs6
          · rw [decide_eq_true hin]
            refine iteF ?_
            obtain ⟨r0, hr0, w1, w2⟩ := J6.kq r hin
            refine ⟨ad, qs6, acc6, kvs6, _, _, _, _, _, _, _, rfl, I7, J6, so, (fun x hx => (sub x hx).imp fun k z => ⟨by omega, z.2⟩), fun k hk => ?_, htp7, hcc7, hu7⟩
            rcases Nat.lt_or_eq_of_le (Nat.le_of_lt_succ hk) with h | rfl
            · exact ch k h
            · refine ⟨hnp, r0, hr0, ?_, ?_⟩
              · rcases List.mem_append.mp hr0 with h | h
                · exact Nat.le_of_lt (b.above he k r0 h)
                · obtain ⟨k0, hk0, rfl⟩ := sub r0 h
                  unfold child
                  omega
              · rw [en]
                exact RG3.rel_same lp1 w1 lp2 w2
          · rw [decide_eq_false hin]
            refine iteT ?_
            refine ⟨_, rfl, _, rfl, Dd, u', kvs6, q3k r, rfl, rfl, I7.hD, I7.ka, q3_key hu8, I7.no hin, ?_, ?_⟩
            · rw [I7.lenK]
              exact Nat.lt_of_le_of_lt (by omega : qs6.length ≤ 5000) (by decide)
            have I8 := I7.seen nD hu8
            have hu9 := I7.tkD (o := DX P w Dd (kvs6 ++ [(q3k r, u', V.bl true)])) |>.1 _ _ hu8
            have hu10 := I7.tkD (o := DX P w Dd (kvs6 ++ [(q3k r, u', V.bl true)])) |>.1 _ _ hu7
            have htp8 := I7.tkD (o := DX P w Dd (kvs6 ++ [(q3k r, u', V.bl true)])) |>.1 _ _ htp7
            have hcc8 := hcc7.tk (I7.tkD (o := DX P w Dd (kvs6 ++ [(q3k r, u', V.bl true)])))
            refine ⟨_, rfl, .inl ⟨rfl, _, SqL.of I8.hW⟩, _, rfl, _, rfl, _, rfl, _, rfl, _, rfl, cc, ordN (nd (RG3.ringSys B st m okB hm) e), j, k', rfl, hcc8.sq, ?_, ?_, fun tm H9 s9 htm => ?_⟩
            · rw [RG3.ord_len]
              exact Nat.le_refl _
            · rw [RG3.ord_flt _ hj]
              exact hk2
            refine ⟨_, rfl, by show 4 ≤ sizeLine; decide, fun t6 h6 => ?_⟩
            have e6 := Same.new (o := .tup [.int ((d : Nat) : Int), .int (j : Int), .ref tm, .ref u']) h6
            have g6 : (upd H9 t6 (.tup [.int ((d : Nat) : Int), .int (j : Int), .ref tm, .ref u'])) t6 = some (.tup [.int ((d : Nat) : Int), .int (j : Int), .ref tm, .ref u']) := upd_same
            have s96 := s9.trans e6
            have htm6 := htm.same e6
            generalize (upd H9 t6 (.tup [.int ((d : Nat) : Int), .int (j : Int), .ref tm, .ref u'])) = H10 at e6 g6 s96 htm6 ⊢
            have I10 := I8.same s96
            refine ⟨Wl, acc6, _, rfl, rfl, I10.hW, Nat.lt_of_le_of_lt (by omega : acc6.length ≤ 5000) (by decide), ?_⟩
            have hRE : isRE (RG3.ringSys B st m okB hm) A B (W ++ ad ++ [child (RG3.ringSys B st m okB hm) e j]) H10 t6 (child (RG3.ringSys B st m okB hm) e j) := by
              refine ⟨.int ((d : Nat) : Int), .int (j : Int), tm, u', r, g6, fun hlt => ?_, fun q0 k0 hk0 e0 => ⟨d, ?_, rfl, ?_⟩, ?_, s96 _ _ hu9, ?_, ?_⟩
              · have := RG3.child_ge (S := (RG3.ringSys B st m okB hm)) e j
                omega
              · have e1 : e = q0 := by
                  have := (RG3.child_par (S := (RG3.ringSys B st m okB hm)) (p := e) hj).1
                  rw [e0, (RG3.child_par (S := (RG3.ringSys B st m okB hm)) (p := q0) hk0).1] at this
                  exact this.symm
                rw [← e1]
                exact pre_app _ _ (pre_app _ _ he)
              · have := (RG3.child_par (S := (RG3.ringSys B st m okB hm)) (p := e) hj).2
                rw [e0, (RG3.child_par (S := (RG3.ringSys B st m okB hm)) (p := q0) hk0).2] at this
                rw [this]
              · rw [en, lp3]
                exact htm6
              · rw [en]
                exact lp1
              · rw [en]
                exact lp2
            have I11 := I10.app hW hRE
            have J11 := J6.push hin (RG3.child_ge (S := (RG3.ringSys B st m okB hm)) e j) (by rw [en]; exact lp1) (by rw [en]; exact lp2)
            refine ⟨ad ++ [child (RG3.ringSys B st m okB hm) e j], qs6 ++ [r], acc6 ++ [.ref t6], _, _, _, _, _, _, _, _, rfl, by rw [← List.append_assoc]; exact I11, by rw [← List.append_assoc]; exact J11, ?_, ?_, fun k hk => ?_, (TK.lst I10.hW).1 _ _ (s96 _ _ htp8), (hcc8.same s96).tk (.lst I10.hW), (TK.lst I10.hW).1 _ _ (s96 _ _ hu10)⟩
            · refine List.pairwise_append.mpr ⟨so, List.pairwise_singleton _ _, fun x hx y hy => ?_⟩
              obtain ⟨k0, hk0, rfl⟩ := sub x hx
              rw [List.mem_singleton.mp hy]
              unfold child
              omega
            · intro x hx
              rcases List.mem_append.mp hx with h | h
              · obtain ⟨k0, hk0, z⟩ := sub x h
                exact ⟨k0, by omega, z⟩
              · exact ⟨j, by omega, List.mem_singleton.mp h⟩
            · rcases Nat.lt_or_eq_of_le (Nat.le_of_lt_succ hk) with h | rfl
              · obtain ⟨z1, r0, z2, z3⟩ := ch k h
                exact ⟨z1, r0, by rw [← List.append_assoc]; exact List.mem_append_left _ z2, z3⟩
              · exact ⟨hnp, child (RG3.ringSys B st m okB hm) e k, by rw [← List.append_assoc]; exact List.mem_append_right _ (List.mem_singleton.mpr rfl), Nat.le_refl _, (RG3.ringSys B st m okB hm).refl _⟩
      · rintro σ' H' ⟨ad, qs6, acc6, kvs6, x7, x10, x11, x12, x13, x14, x15, rfl, I6, J6, so, sub, ch, _, _, _⟩
        have al6 := I6.eW.1
        have lenW6 := J6.len
        have fq6 := J6.few
        have hla : d + 1 ≤ (W ++ ad).length := by
          rw [List.length_append]
          omega
        refine ⟨_, rfl, _, _, rfl, rfl, n0 - 1, by omega, d + 1, W ++ ad, X ++ [e], qs6, acc6, kvs6, _, _, _, _, _, _, _, _, _, rfl, I6, J6, b.lead he (fun k hk => (ch k hk).1) so (fun x hx => (sub x hx).imp fun k z => z) (fun k hk => (ch k hk).2), hla, by omega⟩
    · exact kk none _ H4 (s12.trans I.sm) (b.none (by omega)) (fun _ _ z => by cases z) rfl
end
end PA


set_option maxHeartbeats 4000000
namespace PA
open PySem L2 RZ
open C8 (pss_cut tCut)
abbrev sCalls : Stmt := top 58
abbrev NCallsI : List Str := ["_law_stream", "_law_cases", "_law_most", "_law_found", "_law_k"]
theorem bls_dp {K : PySem.W.Frag} {H : Hp} : ∀ L : List Bool, DpAll K H (L.map V.bl) (L.map PyData.bool)
  | [] => .nil
  | b :: L => .cons (.bl b) (bls_dp L)
theorem bls_lay : ∀ L : List Bool, PyData.canLayAll0 (L.map PyData.bool) = true
  | [] => by simp [PyData.canLayAll0]
  | b :: L => by simp [PyData.canLayAll0, PyData.canLay0, bls_lay L]
theorem bls_depth : ∀ L : List Bool, PyData.depthAll (L.map PyData.bool) ≤ 2
  | [] => by simp [PyData.depthAll]
  | b :: L => by
    have h1 := bls_depth L
    simp only [List.map_cons, PyData.depthAll, PyData.depth]
    omega
theorem bls_shaped (L : List Bool) : SeqAt.shaped (.list (L.map PyData.bool)) = true := by
  have h1 := bls_depth L
  have h2 : PyData.depth (.list (L.map PyData.bool)) ≤ 64 := by
    simp only [PyData.depth]
    omega
  show (PyData.canLay0 _ && decide (PyData.depth (.list (L.map PyData.bool)) ≤ 64)) = true
  rw [Bool.and_eq_true]
  exact ⟨by simp only [PyData.canLay0]; exact bls_lay L, decide_eq_true h2⟩
theorem bls_eqv (L : List Bool) : PyData.eqv (.list (L.map PyData.bool)) (.list (L.map PyData.bool)) = true := by
  have h : ∀ L : List Bool, PyData.eqvAll (L.map PyData.bool) (L.map PyData.bool) = true := by
    intro L
    induction L with
    | nil => simp [PyData.eqvAll]
    | cons b L ih => simp [PyData.eqvAll, PyData.eqv, ih]
  simp [PyData.eqv, h]
theorem atLastI (L : List Int) (b : Int) : atI ((L ++ [b]).map V.int) (-(1 : Int)) = some (.int b) := by
  have hl : ((L ++ [b]).map V.int).length = L.length + 1 := by rw [List.length_map, List.length_append]; rfl
  unfold atI ixN
  rw [hl, if_neg (by decide), if_pos (by omega)]
  show ((L ++ [b]).map V.int)[(-(1 : Int) + ((L.length + 1 : Nat) : Int)).toNat]? = _
  rw [show (-(1 : Int) + ((L.length + 1 : Nat) : Int)).toNat = L.length by omega, List.getElem?_map, List.getElem?_append_right (Nat.le_refl _), Nat.sub_self]
  rfl
def spCalls : Sp := fun vs H Q _ => ∃ (a l : Addr) (n : Nat) (cases most : Int), vs = [.ref a, .int cases, .int most] ∧ StreamAt H a l n ∧ n ≤ 10000 ∧ 1 ≤ cases ∧ cases ≤ 48 ∧ 0 ≤ most ∧ most ≤ 40 ∧
  ∀ (t : Addr) (cs : List Int) (n' : Nat) (H' : Hp), H' t = some (.lst (cs.map V.int)) → (∀ c ∈ cs, 0 ≤ c ∧ c < cases) → (cs.length : Int) ≤ most → t ≠ a → t ≠ l → H t = none → StreamAt H' a l n' → n' ≤ n + 100 → Keep a l H H' → Q (.ref t) H'
section
variable {P : Program} {w : World} {K : PySem.W.Frag} {mg : Str → Option Value} {base : Heap} {C : Addr}
theorem scCalls : FnScope NCallsI ["_law_stream", "_law_cases", "_law_most"] (defScope sCalls) := ⟨rfl, rfl, rfl, by decide +kernel, rfl, by decide +kernel, by decide +kernel⟩
theorem ok_calls {f g : Addr} {fd gd : FuncData} (F : Fun K "_law_m_calls" "_law_m_calls" sCalls f fd) (T : Txt K mg C) (D : Df K mg "_law_draw" sDraw g gd ["_law_stream", "_law_many"]) : FnOk P w K mg base CX0 2 f fd ["_law_stream", "_law_cases", "_law_most"] spCalls := by
  have G : FnOk P w K mg base CX0 1 g gd ["_law_stream", "_law_many"] spDraw := ok_draw D.F T
  refine F.ok scCalls (fun vs H Q E h => ?_) (fun cdv A outer s H vs Q E hr h => ?_)
  · obtain ⟨a, l, n, _, _, rfl, _⟩ := h
    rfl
  · obtain ⟨a, l, n, cases, most, rfl, S0, hn, c1, c48, m0, m40, kk⟩ := h
    refine ⟨_, pss_cons (ps_set (i := 3) scCalls.nd rfl (Or.inl rfl) (pe_lst pa_nil))
      (pss_cons (ps_for PassesOwn.never rfl (pi_range1 (by rfl) T.range_ (pa_cons (pe_call G hr rfl D.M D.F.kp D.B .nil pass0 (pa_cons (pv 0) (pa_cons (pe_op op_add (pv 2) pe_int) pa_nil))) pa_nil)) (pg_name (i := 4) scCalls.nd rfl (Or.inl rfl))
        (pss_one (ps_if (PW.pt (pw_and (pt_cmpR (op_neD hr.units) (pv 3) (pe_lst pa_nil) (nomark _)) (pw_and1 (pt_cmpR op_eq (pe_call G hr rfl D.M D.F.kp D.B .nil pass0 (pa_cons (pv 0) (pa_cons pe_int pa_nil))) pe_int (nomark _)))))
          (pss_one (ps_expr (pe_bm PySem.F.plainAttrs_list PySem.F.slot_list_append PySem.F.type_list_append mt_append (pv 3) (pa_cons (pe_ix ix_list (pv 3) (pe_un un_neg pe_int) (fun _ _ => rfl)) pa_nil))))
          (pss_one (ps_expr (pe_bm PySem.F.plainAttrs_list PySem.F.slot_list_append PySem.F.type_list_append mt_append (pv 3) (pa_cons (pe_call G hr rfl D.M D.F.kp D.B .nil pass0 (pa_cons (pv 0) (pa_cons (pv 1) pa_nil))) pa_nil)))))))
      (pss_one (ps_ret (pv 3)))), ?_⟩
    refine ⟨Nat.zero_le _, fun M hM => ?_⟩
    obtain ⟨Ma, Ml⟩ := S0.ne hM
    have eM := Same.new (o := .lst []) hM
    have gM : (upd H M (.lst [])) M = some (.lst []) := upd_same
    have SM := S0.same eM
    generalize (upd H M (.lst [])) = H0 at eM gM SM ⊢
    refine ⟨_, rfl, _, rfl, _, _, rfl, rfl, a, l, n, most + 1, rfl, SM, by omega, by omega, sm48 (by omega) (by omega), fun r H1 r0 r1 S1 k1 => ⟨r, rfl, by omega, by omega, ?_⟩⟩
    have kp1 := (Keep.of (a := a) (l := l) eM).trans k1
    have hM1 : H1 M = some (.lst []) := k1 _ _ Ma Ml gM
    refine for_range (n := r.toNat) (fun i σ' H' => ∃ (x4 : Option V) (cs : List Int) (m : Nat), σ' = [some (.ref a), some (.int cases), some (.int most), some (.ref M), x4] ∧ H' M = some (.lst (cs.map V.int)) ∧ (∀ c ∈ cs, 0 ≤ c ∧ c < cases) ∧ cs.length = i ∧ StreamAt H' a l m ∧ m ≤ n + 1 + 2 * i ∧ Keep a l H H') ?_ ?_ ?_
    · exact ⟨_, [], n + 1, rfl, hM1, fun c hc => (List.not_mem_nil hc).elim, rfl, S1, by omega, kp1⟩
    · rintro i _ H2 hi ⟨x4, cs, m, rfl, hM2, hb, hl, S2, hm, kp2⟩
      have hi : i < r.toNat := hi
      have push : ∀ (c : Int) (H3 : Hp) (m' : Nat), 0 ≤ c → c < cases → H3 M = some (.lst (cs.map V.int)) → StreamAt H3 a l m' → m' ≤ m + 2 → Keep a l H H3 → (cs.map V.int).length < sizeLine ∧
          ∃ (x4 : Option V) (cs' : List Int) (m'' : Nat), [some (.ref a), some (.int cases), some (.int most), some (.ref M), some (V.int (0 + (i : Int)))] = [some (.ref a), some (.int cases), some (.int most), some (.ref M), x4] ∧ (upd H3 M (.lst (cs.map V.int ++ [.int c]))) M = some (.lst (cs'.map V.int)) ∧ (∀ c ∈ cs', 0 ≤ c ∧ c < cases) ∧ cs'.length = i + 1 ∧ StreamAt (upd H3 M (.lst (cs.map V.int ++ [.int c]))) a l m'' ∧ m'' ≤ n + 1 + 2 * (i + 1) ∧ Keep a l H (upd H3 M (.lst (cs.map V.int ++ [.int c]))) := by
        intro c H3 m' q0 q1 h3 S3 hm' kp3
        refine ⟨?_, _, cs ++ [c], m', rfl, ?_, ?_, ?_, S3.lst h3 Ma Ml, by omega, ?_⟩
        · rw [List.length_map, hl]
          exact Nat.lt_of_lt_of_le (by omega : i < 41) (by decide)
        · rw [upd_same, List.map_append]
          rfl
        · intro d hd
          rcases List.mem_append.mp hd with hd | hd
          · exact hb d hd
          · rw [List.mem_singleton.mp hd]
            exact ⟨q0, q1⟩
        · rw [List.length_append, hl]
          rfl
        · intro d o da dl e
          rw [upd_ne (ne_of_none e hM)]
          exact kp3 d o da dl e
      refine ⟨_, rfl, Nat.zero_le _, fun p hp => ?_⟩
      have ep := Same.new (o := .lst []) hp
      refine ⟨.list (cs.map PyData.int), .list [], .lst (SqL.of (ep _ _ hM2)) (dp_ints cs), .lst (SqL.of upd_same) .nil, ints_shaped cs, ints_shaped [], _, rfl, ?_⟩
      rw [ints_nil]
      have S3 := S2.same ep
      have kp3 := kp2.trans (Keep.of (a := a) (l := l) ep)
      have hM3 := ep _ _ hM2
      generalize (upd H2 p (.lst [])) = H3 at S3 kp3 hM3 ⊢
      by_cases hc : cs = []
      · have e1 : cs.isEmpty = true := by rw [hc]; rfl
        rw [e1]
        refine iteF ⟨_, rfl, .inl ⟨rfl, _, SqL.of hM3⟩, _, rfl, _, rfl, a, l, m, cases, rfl, S3, by omega, by omega, sm48 (by omega) (by omega), fun v H4 v0 v1 S4 k4 => ?_⟩
        have hM4 := k4 _ _ Ma Ml hM3
        obtain ⟨u1, u2⟩ := push v H4 _ v0 v1 hM4 S4 (by omega) (kp3.trans k4)
        exact ⟨M, _, _, rfl, rfl, hM4, u1, u2⟩
      · have e1 : cs.isEmpty = false := by
          cases cs with
          | nil => exact absurd rfl hc
          | cons y ys => rfl
        rw [e1]
        refine iteT ⟨_, rfl, a, l, m, 3, rfl, S3, by omega, by decide, sm48 (by decide) (by decide), fun v H4 v0 v1 S4 k4 => ⟨rfl, _, rfl, ifD_2 (fun e => ?_) (fun e => ?_)⟩⟩
        · have hM4 := k4 _ _ Ma Ml hM3
          obtain ⟨xs, c, rfl⟩ : ∃ xs c, cs = xs ++ [c] := ⟨cs.dropLast, cs.getLast hc, (List.dropLast_concat_getLast hc).symm⟩
          obtain ⟨q0, q1⟩ := hb c (List.mem_append.mpr (.inr (List.mem_singleton.mpr rfl)))
          obtain ⟨u1, u2⟩ := push c H4 _ q0 q1 hM4 S4 (by omega) (kp3.trans k4)
          exact ⟨_, rfl, .inl ⟨rfl, _, SqL.of hM4⟩, _, rfl, _, rfl, M, _, _, .int c, rfl, rfl, SqL.of hM4, atLastI xs c, M, _, _, rfl, rfl, hM4, u1, u2⟩
        · have hM4 := k4 _ _ Ma Ml hM3
          refine ⟨_, rfl, .inl ⟨rfl, _, SqL.of hM4⟩, _, rfl, _, rfl, a, l, _, cases, rfl, S4, by omega, by omega, sm48 (by omega) (by omega), fun u H5 v0 v1 S5 k5 => ?_⟩
          have hM5 := k5 _ _ Ma Ml hM4
          obtain ⟨u1, u2⟩ := push u H5 _ v0 v1 hM5 S5 (by omega) ((kp3.trans k4).trans k5)
          exact ⟨M, _, _, rfl, rfl, hM5, u1, u2⟩
    · rintro σ' H2 ⟨x4, cs, m, rfl, hM2, hb, hl, S2, hm, kp2⟩
      exact ⟨_, rfl, kk M cs m H2 hM2 hb (by omega) Ma Ml hM S2 (by omega) kp2⟩
end
end PA

set_option maxHeartbeats 16000000
namespace PA
open PySem L2 RZ
open C8 (pss_cut tCut)
open RG3 (Pg Nd nd root calls prs movG begG mem_prs one rw_ scP scT bhd NoR tri ringN stp rootN ringSys Res)
abbrev sIn : Stmt := top 62
abbrev NIn : List Str := ["_law_stream", "_law_rule", "_law_found", "_law_many", "_law_places", "_law_k", "_law_marks", "_law_case", "_law_others", "_law_pairs", "_law_turned", "_law_place"]
theorem op_notIn_seqK {X : Cx} {K : PySem.W.Frag} (h : X.K = K) : OpR X (compareOp .NotIn) (rIn K true) := h ▸ op_notIn_seq
/-! ### x in a tuple of data -/
def rInDT (K : PySem.W.Frag) : R2 := fun x y H Q => ∃ d ds, Dp K H x d ∧ Dp K H y (.tuple ds) ∧ d.canLay0 = true ∧ PyData.canLayAll0 ds = true ∧ d.depth ≤ 10 ∧ Q (.bl (ds.any fun z => PyData.eqv z d)) H
theorem op_inDT {X : Cx} (hu : X.A.units + 64 < cLine) : OpR X (compareOp .In) (rInDT X.K) := by
  intro pins s σ H x y v u Q I rx ry h
  obtain ⟨d, ds, hd, he, sd, se, hp, q⟩ := h
  obtain ⟨as, r1⟩ := Dp.reads I d x v hd rx
  obtain ⟨bs, r2⟩ := Dp.reads I (.tuple ds) y u he ry
  exact SeqAt.in_tuple_reads r2 r1 se sd (by omega) ⟨.bl _, H, I, rfl, q⟩
def KeepR (H H' : Hp) : Prop := ∀ c o, H c = some o → (∀ xs, o ≠ .lst xs) → H' c = some o
theorem KeepR.of {a l : Addr} {n : Nat} {H H' : Hp} (S : StreamAt H a l n) (k : Keep a l H H') : KeepR H H' := fun c o e h1 => by
  obtain ⟨ne, ns, x, z, g1, g2, _⟩ := S
  refine k c o (fun z => ?_) (fun z => ?_) e
  · subst z
    rw [g1] at e
    cases e
    exact h1 _ rfl
  · subst z
    rw [g2] at e
    cases e
    exact h1 _ rfl
theorem SqT.kr {K : PySem.W.Frag} {H H' : Hp} {a : Addr} {xs : List V} (h : SqT K H a xs) (e : KeepR H H') : SqT K H' a xs :=
  h.elim (fun h => .inl (h.elim (fun h => .inl (e _ _ h (by intro _ z; cases z))) fun ⟨o, h⟩ => .inr ⟨o, e _ _ h (by intro _ z; cases z)⟩)) fun h => .inr h
theorem RuleAt.kr {K : PySem.W.Frag} {C : Addr} {H H' : Hp} {p : Addr} {rows : List Rw} {starts : List Int} {k : Int} (r : RuleAt K C H p rows starts k) (s : KeepR H H') : RuleAt K C H' p rows starts k := by
  obtain ⟨dx, R, S, refs, h1, h2, h3, h4⟩ := r
  exact ⟨dx, R, S, refs, s _ _ h1 (by intro _ z; cases z), s _ _ h2 (by intro _ z; cases z), h3.imp (fun c r q => s _ _ q (by intro _ z; cases z)), SqT.kr h4 s⟩
theorem PD.kr {H H' : Hp} {d : Addr} {n : Nat} {g : Pg} (h : PD H d n g) (s : KeepR H H') : PD H' d n g := by
  obtain ⟨T, h1, h2⟩ := h
  exact ⟨T, s _ _ h1 (by intro _ z; cases z), fun p hp => s _ _ (h2 p hp) (by intro _ z; cases z)⟩
theorem three {zs ns : List Int} {N : Nat} (hz : zs.Perm ((List.range N).map fun x : Nat => (x : Int))) (h3 : 3 ≤ N) (hp : ns.Perm (zs.take 3)) (hs : ns.Pairwise (· ≤ ·)) : ∃ x y z : Nat, ns.map V.int = natsV [x, y, z] ∧ x < y ∧ y < z ∧ z < N := by
  have l1 : zs.length = N := by rw [hz.length_eq, List.length_map, List.length_range]
  have l2 : ns.length = 3 := by rw [hp.length_eq, List.length_take, l1]; omega
  have nd : zs.Nodup := hz.nodup_iff.mpr (RG3.nodup_map List.nodup_range fun a _ b _ e => by omega)
  have nd2 : ns.Nodup := hp.nodup_iff.mpr (nd.sublist (List.take_sublist _ _))
  have mem : ∀ i ∈ ns, 0 ≤ i ∧ i < (N : Int) := fun i hi => by
    obtain ⟨k, hk, rfl⟩ := List.mem_map.mp (hz.mem_iff.mp (List.mem_of_mem_take (hp.mem_iff.mp hi)))
    have := List.mem_range.mp hk
    omega
  match ns, l2, hs, nd2, mem with
  | [i, j, k], _, hs, nd2, mem =>
    have a1 := mem i (by simp)
    have a2 := mem j (by simp)
    have a3 := mem k (by simp)
    simp only [List.pairwise_cons, List.nodup_cons, List.mem_cons, List.not_mem_nil, or_false] at hs nd2
    have b1 := hs.1 j (by simp)
    have b2 := hs.2.1 k (by simp)
    have c1 : i ≠ j := fun e => nd2.1 (.inl e)
    have c2 : j ≠ k := fun e => nd2.2.1 e
    refine ⟨i.toNat, j.toNat, k.toNat, ?_, by omega, by omega, by omega⟩
    show [V.int i, V.int j, V.int k] = [V.int (i.toNat : Int), V.int (j.toNat : Int), V.int (k.toNat : Int)]
    rw [Int.toNat_of_nonneg a1.1, Int.toNat_of_nonneg a2.1, Int.toNat_of_nonneg a3.1]
theorem cut3 {ys : List V} (h : 3 ≤ ys.length) : cutV ys none (some 3) = ys.take 3 := by
  unfold cutV
  rw [HT.sIx_none, show (some (3 : Int)) = some ((3 : Nat) : Int) from rfl, HT.sIx_nat, Nat.min_eq_left h]
  rfl
theorem perm_ints {ys : List V} {ns : List Int} (h : ys.Perm (ns.map V.int)) : ∃ zs : List Int, ys = zs.map V.int ∧ zs.Perm ns := by
  refine ⟨ys.map fun v => match v with | .int i => i | _ => 0, ?_, ?_⟩
  · rw [List.map_map]
    refine (List.map_id ys).symm.trans (List.map_congr_left fun y hy => ?_)
    obtain ⟨i, _, rfl⟩ := List.mem_map.mp (h.mem_iff.mp hy)
    rfl
  · have := h.map fun v => match v with | V.int i => i | _ => 0
    rw [List.map_map] at this
    refine this.trans (List.Perm.of_eq ?_)
    exact List.map_id ns
theorem StreamAt.but {a l M : Addr} {n : Nat} {H H' : Hp} (S : StreamAt H a l n) (ma : M ≠ a) (ml : M ≠ l) (b : But M H H') : StreamAt H' a l n := by
  obtain ⟨ne, ns, x, z, g1, g2, r⟩ := S
  exact ⟨ne, ns, x, z, b _ _ (Ne.symm ma) g1, b _ _ (Ne.symm ml) g2, r⟩
theorem KeepR.but {M : Addr} {xs : List V} {H H' : Hp} (hM : H M = some (.lst xs)) (b : But M H H') : KeepR H H' := fun c o e h => b c o (fun z => by rw [z, hM] at e; exact h _ (Option.some.inj e).symm) e
theorem natsI (ns : List Nat) : natsV ns = (ns.map fun x : Nat => (x : Int)).map V.int := (List.map_map ..).symm
theorem nats_get {ns : List Nat} {i : Nat} {x : V} (h : (natsV ns)[i]? = some x) : ∃ k : Nat, ns[i]? = some k ∧ x = .int (k : Int) := by
  unfold natsV at h
  rw [List.getElem?_map] at h
  obtain ⟨k, h1, h2⟩ := Option.map_eq_some_iff.mp h
  exact ⟨k, h1, h2.symm⟩
theorem at3 (f g h : Nat) : ∀ i, i < 3 → (natsV [f, g, h])[i]? = some (.int (([f, g, h].getD i 0 : Nat) : Int))
  | 0, _ => rfl
  | 1, _ => rfl
  | 2, _ => rfl
theorem nats_set (ms : List Nat) (j v : Nat) : (natsV ms).set j (.int (v : Int)) = natsV (ms.set j v) := by
  unfold natsV
  rw [List.map_set]
theorem inV_nats (i : Nat) : ∀ os : List Nat, inV (V.int (i : Int)) (natsV os) = decide (i ∈ os)
  | [] => rfl
  | o :: os => by
    have ih := inV_nats i os
    show ((((o : Nat) : Int) == (i : Int)) || inV (V.int (i : Int)) (natsV os)) = _
    rw [ih]
    by_cases h : i = o
    · subst h; simp
    · have : ¬ (o : Int) = (i : Int) := by omega
      simp [h, this]
theorem tri_lt {m r : Nat} (hm : 0 < m) (h : r < m * m * m) : (triN m r).1 < m ∧ (triN m r).2.1 < m ∧ (triN m r).2.2 < m :=
  ⟨Nat.div_lt_of_lt_mul h, Nat.mod_lt _ hm, Nat.mod_lt _ hm⟩
theorem calls_lt3 {S : RG3.Sys Nd} (p : Nat) : ∀ x ∈ calls S p, x < 3 := by
  induction p using Nat.strongRecOn with
  | _ p ih =>
    by_cases hp : p < S.M
    · rw [RG3.calls_root hp]
      intro x hx
      cases hx
    · obtain ⟨q, c, hc, rfl, hq⟩ := RG3.path_cases hp
      rw [RG3.calls_child hc]
      intro x hx
      rcases List.mem_append.mp hx with hx | hx
      · exact ih q hq x hx
      · rw [List.mem_singleton.mp hx]
        exact hc
theorem bls_c (L : List Bool) : (PyData.list (L.map PyData.bool)).canLay0 = true := by
  simp only [PyData.canLay0]
  exact bls_lay L
theorem bls_d (L : List Bool) : (PyData.list (L.map PyData.bool)).depth ≤ 10 := by
  have := bls_depth L
  simp only [PyData.depth]
  omega
theorem bls_cc (L M : List Bool) : PyData.canLayAll0 [.list (L.map PyData.bool), .list (M.map PyData.bool)] = true := by
  simp only [PyData.canLayAll0, bls_c, Bool.and_self]
theorem any_ring {f1 f2 f3 : Bool} (h : (f1 = false ∧ f2 = true ∧ f3 = false) ∨ (f1 = true ∧ f2 = false ∧ f3 = true)) :
    ([PyData.list ([false, true, false].map PyData.bool), .list ([true, false, true].map PyData.bool)].any fun z => PyData.eqv z (.list ([f1, f2, f3].map PyData.bool))) = true := by
  rw [List.any_cons, List.any_cons]
  rcases h with ⟨rfl, rfl, rfl⟩ | ⟨rfl, rfl, rfl⟩
  · rw [bls_eqv, Bool.true_or]
  · rw [bls_eqv [true, false, true], Bool.true_or, Bool.or_true]
def spIn (K : PySem.W.Frag) (C : Addr) : Sp := fun vs H Q _ => ∃ (a l r F u cc : Addr) (n : Nat) (A : List Rn) (st : List Nat) (m : Nat) (ok : LF.TOk A) (hm : 0 < m) (e c : Nat), vs = [.ref a, .ref r, .ref F] ∧ StreamAt H a l n ∧ n ≤ 5000 ∧
  RuleZ K C H r A st (m : Int) ∧ (∀ s ∈ st, s < A.length) ∧ 0 < A.length ∧ st.length = m * m ∧ m ≤ 4 ∧ Res (ringSys A st m ok hm) (some (e, c)) ∧ (calls (ringSys A st m ok hm) e).length ≤ 4200 ∧
  H F = some (.tup [.ref u, .ref cc]) ∧ isQ3 H u (triN m (root (ringSys A st m ok hm) e)) ∧ H cc = some (.tup (natsV (calls (ringSys A st m ok hm) e ++ [c]))) ∧ ∀ H', Q (.bl true) H'
section
variable {P : Program} {w : World} {K : PySem.W.Frag} {mg : Str → Option Value} {base : Heap} {C : Addr}
theorem scIn : FnScope NIn ["_law_stream", "_law_rule", "_law_found"] (defScope sIn) := ⟨rfl, rfl, rfl, by decide +kernel, rfl, by decide +kernel, by decide +kernel⟩
theorem ok_in {f g1 g2 g3 g4 g5 g6 g7 : Addr} {fd gd1 gd2 gd3 gd4 gd5 gd6 gd7 : FuncData} (F : Fun K "_law_ring_in" "_law_ring_in" sIn f fd) (T : Txt K mg C) (Ts : mg "sorted" = none) (Td : mg "dict" = none)
    (Dd : Df K mg "_law_draw" sDraw g1 gd1 ["_law_stream", "_law_many"]) (Dp : Df K mg "_law_pick" sPick g2 gd2 ["_law_stream", "_law_some"]) (Dm : Df K mg "_law_mixed" sMixed g3 gd3 ["_law_stream", "_law_some"])
    (Db : Df K mg "_law_begun" sBegP g4 gd4 ["_law_rule", "_law_marks"]) (Dv : Df K mg "_law_moved" sMovP g5 gd5 ["_law_rule", "_law_pairs", "_law_case"]) (Dl : Df K mg "_law_line" sLine g6 gd6 ["_law_pairs", "_law_many"])
    (FS : Fun K "step" "Rule.step" sStep g7 gd7) (mS : Meth K C "step" g7) (bS : Binds K gd7 ["self", "state", "behind"] []) : FnOk P w K mg base CX0 3 f fd ["_law_stream", "_law_rule", "_law_found"] (spIn K C) := by
  have GDr : FnOk P w K mg base CX0 1 g1 gd1 ["_law_stream", "_law_many"] spDraw := ok_draw Dd.F T
  have GPi : FnOk P w K mg base CX0 2 g2 gd2 ["_law_stream", "_law_some"] spPick := ok_pick Dp.F T Dd
  have GMi : FnOk P w K mg base CX0 2 g3 gd3 ["_law_stream", "_law_some"] spMixed := ok_mixed Dm.F T Dd
  have GBe : FnOk P w K mg base CX0 1 g4 gd4 ["_law_rule", "_law_marks"] (spBegP K C) := ok_begP Db.F T Td
  have GMv : FnOk P w K mg base CX0 2 g5 gd5 ["_law_rule", "_law_pairs", "_law_case"] (spMovP K C) := ok_movP Dv.F T FS mS bS
  have GLi : FnOk P w K mg base CX0 1 g6 gd6 ["_law_pairs", "_law_many"] spLine := ok_line Dl.F T Ts
  refine F.ok scIn (fun vs H Q E h => ?_) (fun cdv A0 outer s H vs Q E hr h => ?_)
  · obtain ⟨_, _, _, _, _, _, _, _, _, _, _, _, _, _, rfl, _⟩ := h
    rfl
  · obtain ⟨a, l, r, Fo, u, cc, n, A, st, m, ok, hm, e, c, rfl, S0, hn, R0, hst, hA, hsl, m4, hres, hcl, hF, hu3, hcc, kk⟩ := h
    have hu := u1 hr.units
    have hr1 : Room 1 _ := hr.mono (by decide)
    have hr2 : Room 2 _ := hr.mono (by decide)
    refine ⟨_, pss_cons (ps_set (i := 3) scIn.nd rfl (Or.inl rfl) (pe_op op_add pe_int (pe_call GDr hr1 rfl Dd.M Dd.F.kp Dd.B .nil pass0 (pa_cons (pv 0) (pa_cons pe_int pa_nil)))))
      (pss_cut (ps_set (i := 4) scIn.nd rfl (Or.inr rfl) (pe_callB cr_sortedI (by rfl) Ts boot_sorted' (pa_cons (pe_lc (own := [("_law_place", 11)]) (g := gName 11) (tt := tYes) (by rfl) scIn.nd (pi_list (pe_slice sl_list (pe_call GMi hr2 rfl Dm.M Dm.F.kp Dm.B .nil pass0 (pa_cons (pv 0) (pa_cons (pe_listRg (by rfl) (by rfl) T.list_ (prg_1 (by rfl) T.range_ (pv 3))) pa_nil))) po_none (po_some pe_int))) (blkOk_by (N := NIn) (sc := defScope sIn) (by decide +kernel))
        (fun _ _ _ _ _ => pg_name (i := 11) scIn.nd rfl (Or.inl rfl)) (fun _ _ _ _ _ => pts_nil) (fun _ _ _ _ _ => pe_callTy call_int1 (by rfl) T.int_ boot_int' (pa_cons (pv 11) pa_nil))) pa_nil)))
      (pss_cut (ps_setLc (i := 6) (own := [("_law_k", 5)]) (g := gName 5) (tt := tYes) (by rfl) scIn.nd rfl rfl (sw_true rfl rfl rfl (by decide +kernel)) (pi_range1 (by rfl) T.range_ (pa_cons (pv 3) pa_nil)) (blkOk_by (N := NIn) (sc := defScope sIn) (by decide +kernel))
        (fun _ _ _ _ _ => pg_name (i := 5) scIn.nd rfl (Or.inl rfl)) (fun _ _ _ _ _ => pts_nil) (fun _ _ _ _ _ => pe_call GDr hr1 rfl Dd.M Dd.F.kp Dd.B .nil pass0 (pa_cons (pv 0) (pa_cons (pe_fldF (K := K) rfl (pv 1)) pa_nil))))
      (pss_cut (ps_for PassesOwn.never rfl (pi_range1 (by rfl) T.range_ (pa_cons pe_int pa_nil)) (pg_name (i := 5) scIn.nd rfl (Or.inl rfl))
        (pss_one (ps_asg (pe_ix ix_tup (pe_ix ix_tup (pv 2) pe_int (fun _ _ => rfl)) (pv 5) (fun _ _ => rfl)) (pg_sub (pv 6) (pe_ix ix_list (pv 4) (pv 5) (fun _ _ => rfl)) set_list))))
      (pss_cut (ps_setLc (i := 8) (own := [("_law_case", 7)]) (g := gName 7) (by rfl) scIn.nd rfl rfl (sw_true rfl rfl rfl (by decide +kernel)) (pi_range1 (by rfl) T.range_ (pa_cons (pv 3) pa_nil)) (blkOk_by (N := NIn) (sc := defScope sIn) (by decide +kernel))
        (fun _ _ _ _ _ => pg_name (i := 7) scIn.nd rfl (Or.inl rfl)) (fun _ _ _ _ _ => pts_one (pt_cmpR (op_notIn_seqK (K := K) rfl) (pv 7) (pv 4) rfl)) (fun _ _ _ _ _ => pv 7))
      (pss_cons (ps_set (i := 9) scIn.nd rfl (Or.inl rfl) (pe_call GBe hr1 rfl Db.M Db.F.kp Db.B .nil pass0 (pa_cons (pv 1) (pa_cons (pv 6) pa_nil))))
      (pss_cut (ps_for PassesOwn.never rfl (pi_sq (pe_ix ix_tup (pv 2) pe_int (fun _ _ => rfl))) (pg_name (i := 7) scIn.nd rfl (Or.inl rfl))
        (pss_cut (ps_if (PW.pt (pw_and (pt_cmpR (op_neD hr.units) (pv 8) (pe_lst pa_nil) (nomark _)) (pw_and1 (pt_cmpR op_eq (pe_call GDr hr1 rfl Dd.M Dd.F.kp Dd.B .nil pass0 (pa_cons (pv 0) (pa_cons pe_int pa_nil))) pe_int (nomark _)))))
          (pss_one (ps_set (i := 9) scIn.nd rfl (Or.inl rfl) (pe_call GMv hr2 rfl Dv.M Dv.F.kp Dv.B .nil pass0 (pa_cons (pv 1) (pa_cons (pv 9) (pa_cons (pe_call GPi hr2 rfl Dp.M Dp.F.kp Dp.B .nil pass0 (pa_cons (pv 0) (pa_cons (pv 8) pa_nil))) pa_nil)))))) pss_nil)
        (pss_one (ps_set (i := 9) scIn.nd rfl (Or.inl rfl) (pe_call GMv hr2 rfl Dv.M Dv.F.kp Dv.B .nil pass0 (pa_cons (pv 1) (pa_cons (pv 9) (pa_cons (pe_ix ix_list (pv 4) (pv 7) (fun _ _ => rfl)) pa_nil))))))))
      (pss_cons (ps_set (i := 10) scIn.nd rfl (Or.inl rfl) (pe_lst (pa_cons (pe_ix ix_tup (pe_dget hu (pv 9) (pe_tup (pa_cons (pe_ix ix_list (pv 4) pe_int (fun _ _ => rfl)) (pa_cons (pe_ix ix_list (pv 4) pe_int (fun _ _ => rfl)) pa_nil))) (fun _ _ => rfl)) pe_int (fun _ _ => rfl))
        (pa_cons (pe_ix ix_tup (pe_dget hu (pv 9) (pe_tup (pa_cons (pe_ix ix_list (pv 4) pe_int (fun _ _ => rfl)) (pa_cons (pe_ix ix_list (pv 4) pe_int (fun _ _ => rfl)) pa_nil))) (fun _ _ => rfl)) pe_int (fun _ _ => rfl))
        (pa_cons (pe_ix ix_tup (pe_dget hu (pv 9) (pe_tup (pa_cons (pe_ix ix_list (pv 4) pe_int (fun _ _ => rfl)) (pa_cons (pe_ix ix_list (pv 4) pe_int (fun _ _ => rfl)) pa_nil))) (fun _ _ => rfl)) pe_int (fun _ _ => rfl)) pa_nil)))))
      (pss_one (ps_ret (pe_and (pe_cmpR (op_inDT hr.units) (pv 10) (pe_tup (pa_cons (pe_lst (pa_cons pe_bl (pa_cons pe_bl (pa_cons pe_bl pa_nil)))) (pa_cons (pe_lst (pa_cons pe_bl (pa_cons pe_bl (pa_cons pe_bl pa_nil)))) pa_nil))) rfl)
        (pe_one (pe_not (pe_call GLi hr1 rfl Dl.M Dl.F.kp Dl.B .nil pass0 (pa_cons (pv 9) (pa_cons (pv 3) pa_nil))))))))))))))), ?_⟩
    refine ⟨_, rfl, a, l, n, 4, rfl, S0, by omega, by decide, sm48 (by decide) (by decide), fun v H1 v0 v1 S1 k1 => ⟨_, _, rfl, rfl, ?_⟩⟩
    obtain ⟨N, hN, N3, N6⟩ : ∃ N : Nat, 3 + v = (N : Int) ∧ 3 ≤ N ∧ N ≤ 6 := ⟨(3 + v).toNat, by omega, by omega, by omega⟩
    show gName 3 (V.int (3 + v)) _ _ _
    rw [hN]
    refine ⟨fun σ' H' => ∃ (P : Addr) (x y z n2 : Nat), σ' = [some (.ref a), some (.ref r), some (.ref Fo), some (.int (N : Int)), some (.ref P), none, none, none, none, none, none, none] ∧ H' P = some (.lst (natsV [x, y, z])) ∧ x < y ∧ y < z ∧ z < N ∧ P ≠ a ∧ P ≠ l ∧ StreamAt H' a l n2 ∧ n2 ≤ n + 7 ∧ Keep a l H H', ?_, ?_⟩
    · refine ⟨_, rfl, _, rfl, _, rfl, RgOk.of_le (by decide) (by omega) (by decide) (by omega), fun L hL => ?_⟩
      rw [rgZ]
      have eL := Same.new (o := HO.lst (((List.range N).map fun x : Nat => (x : Int)).map V.int)) hL
      have lL : (((List.range N).map fun x : Nat => (x : Int)).map V.int).length = N := by rw [List.length_map, List.length_map, List.length_range]
      refine ⟨a, l, L, n + 1, _, rfl, S1.same eL, by omega, upd_same, by rw [lL]; omega, fun t ys H2 ht hp ta tl tn S2 k2 => ?_⟩
      have ly : ys.length = N := by rw [hp.length_eq, lL]
      obtain ⟨zs, rfl, hz⟩ := perm_ints hp
      refine ⟨3, rfl, t, _, rfl, SqL.of ht, fun t3 ht3 => ?_⟩
      rw [cut3 (by omega), ← List.map_take]
      have e3 := Same.new (o := HO.lst ((zs.take 3).map V.int)) ht3
      have g3 : (upd H2 t3 (.lst ((zs.take 3).map V.int))) t3 = some (.lst ((zs.take 3).map V.int)) := upd_same
      have k3 := ((k1.trans (Keep.of (a := a) (l := l) eL)).trans k2).trans (Keep.of (a := a) (l := l) e3)
      have S3 := S2.same e3
      generalize (upd H2 t3 (.lst ((zs.take 3).map V.int))) = H3 at e3 g3 k3 S3 ⊢
      refine ⟨t3, rfl, ⟨_, SqL.of g3⟩, fun Dc hDc => ?_⟩
      have l3 : ((zs.take 3).map V.int).length ≤ 3 := by rw [List.length_map, List.length_take]; omega
      refine lc_same walk_l (Nat.le_trans l3 (by decide)) hDc (fun H' s' => SqL.of (s' _ _ g3)) ((zs.take 3).map V.int) rfl ?_ ?_
      · rintro i x y H4 Φ Ψ hx hy s4 kf
        have e : x = y := by rw [hx] at hy; exact Option.some.inj hy
        subst e
        rw [List.getElem?_map] at hx
        obtain ⟨w', _, rfl⟩ := Option.map_eq_some_iff.mp hx
        refine ⟨rfl, ?_⟩
        dsimp only [tYes]
        rw [if_pos rfl]
        exact ⟨_, rfl, .inl ⟨_, rfl, kf _ fun _ _ e => e⟩⟩
      · rintro H4 s4 hD4
        refine ⟨Dc, _, rfl, SqL.of hD4, fun ns p0 hp0 hs hpn => ?_⟩
        obtain ⟨x, y, z, ens, xy, yz, zN⟩ := three hz N3 hp0 hs
        rw [ens]
        have e5 := Same.new (o := HO.lst (natsV [x, y, z])) hpn
        obtain ⟨pa, pl⟩ := (S3.same s4).ne hpn
        exact ⟨p0, x, y, z, _, rfl, upd_same, xy, yz, zN, pa, pl, (S3.same s4).same e5, by rw [lL]; omega, (k3.trans (Keep.of s4)).trans (Keep.of e5)⟩
    · rintro _ H4 ⟨Pl, x, y, z, n2, rfl, hP, xy, yz, zN, Pa, Pb, S4, hn2, k4⟩
      have R4 := RuleAt.kr R0 (KeepR.of S0 k4)
      have kr4 := KeepR.of S0 k4
      have hF4 := kr4 _ _ hF (by intro _ z; cases z)
      have hu4 : isQ3 H4 u (triN m (root (ringSys A st m ok hm) e)) := kr4 _ _ hu3 (by intro _ z; cases z)
      have hcc4 := kr4 _ _ hcc (by intro _ z; cases z)
      clear S1 k1 hN v0 v1
      refine ⟨fun σ' H' => ∃ (M : Addr) (ms : List Nat) (n3 : Nat), σ' = [some (.ref a), some (.ref r), some (.ref Fo), some (.int (N : Int)), some (.ref Pl), none, some (.ref M), none, none, none, none, none] ∧ H' M = some (.lst (natsV ms)) ∧ ms.length = N ∧ (∀ i, i < N → ms.getD i 0 < m) ∧ M ≠ a ∧ M ≠ l ∧ M ≠ Pl ∧ StreamAt H' a l n3 ∧ n3 ≤ n + 13 ∧ Keep a l H4 H', ?_, ?_⟩
      · refine ⟨_, rfl, _, rfl, by omega, by omega, fun Dd hD => ?_⟩
        obtain ⟨Da, Db⟩ := S4.ne hD
        have DP : Dd ≠ Pl := fun z => by rw [z, hP] at hD; cases hD
        refine lc_range (n := ((N : Int)).toNat) (fun i H' => StreamAt H' a l (n2 + i) ∧ Keep a l H4 H' ∧ ∃ ms : List Nat, H' Dd = some (.lst (natsV ms)) ∧ ms.length = i ∧ ∀ z ∈ ms, z < m) ?_ ?_ ?_
        · exact ⟨S4.same (Same.new hD), Keep.of (Same.new hD), [], upd_same, rfl, fun z hz => by cases hz⟩
        · rintro i H5 hi ⟨S5, k5, ms, hd, hl, hz⟩
          rw [Int.toNat_natCast] at hi
          have R5 := RuleAt.kr R4 (KeepR.of S4 k5)
          obtain ⟨dx, RR, Z, refs, hpo, _⟩ := R5
          refine ⟨rfl, ?_⟩
          dsimp only [tYes]
          rw [if_pos rfl]
          refine ⟨_, rfl, _, rfl, r, C, dx, _, _, rfl, hpo, T.cl, T.nM, rf_marks _ _ _, a, l, _, _, rfl, S5, by omega, by omega, sm48 (by omega) (by omega), fun v H6 v0 v1 S6 k6 => ?_⟩
          have hd6 := k6 _ _ Da Db hd
          obtain ⟨w', rfl⟩ : ∃ w' : Nat, v = (w' : Int) := ⟨v.toNat, by omega⟩
          refine ⟨_, hd6, ?_, ?_, ?_, ms ++ [w'], ?_, ?_, ?_⟩
          · unfold natsV
            rw [List.length_map, hl]
            exact Nat.lt_of_lt_of_le (by omega : i < 10) (by decide)
          · exact S6.lst hd6 Da Db
          · intro b o ba bl e
            rw [upd_ne (ne_of_none e hD)]
            exact k6 _ _ ba bl (k5 _ _ ba bl e)
          · rw [upd_same, natsV_snoc]
          · rw [List.length_append, hl]
            rfl
          · intro z hz'
            rcases List.mem_append.mp hz' with hz' | hz'
            · exact hz z hz'
            · rw [List.mem_singleton.mp hz']
              omega
        · rintro H5 ⟨S5, k5, ms, hd, hl, hz⟩
          rw [Int.toNat_natCast] at hl S5
          refine ⟨Dd, ms, _, rfl, hd, hl, fun i hi => ?_, Da, Db, DP, S5, by omega, k5⟩
          rw [List.getD_eq_getElem?_getD, List.getElem?_eq_getElem (by omega)]
          exact hz _ (List.getElem_mem _)
      · rintro _ H5 ⟨M, ms0, n3, rfl, hM, hml, hmb, Ma, Mb, MP, S5, hn3, k5⟩
        have hP5 := k5 _ _ Pa Pb hP
        have kr5 := KeepR.of S4 k5
        have R5 := RuleAt.kr R4 kr5
        have hF5 := kr5 _ _ hF4 (by intro _ z; cases z)
        have hu5 : isQ3 H5 u (triN m (root (ringSys A st m ok hm) e)) := kr5 _ _ hu4 (by intro _ z; cases z)
        have hcc5 := kr5 _ _ hcc4 (by intro _ z; cases z)
        have rl : root (ringSys A st m ok hm) e < m * m * m := RG3.root_lt (S := ringSys A st m ok hm) e
        obtain ⟨q1, q2, q3⟩ := tri_lt hm rl
        generalize eq3 : triN m (root (ringSys A st m ok hm) e) = q at hu5 q1 q2 q3
        have hq : ∀ i, i < 3 → [q.1, q.2.1, q.2.2].getD i 0 < m
          | 0, _ => q1
          | 1, _ => q2
          | 2, _ => q3
        have hx : ∀ i, i < 3 → [x, y, z].getD i 0 < N
          | 0, _ => by show x < N; omega
          | 1, _ => by show y < N; omega
          | 2, _ => zN
        have hne : ∀ i j, i < 3 → j < i → [x, y, z].getD j 0 ≠ [x, y, z].getD i 0
          | 1, 0, _, _ => by show x ≠ y; omega
          | 2, 0, _, _ => by show x ≠ z; omega
          | 2, 1, _, _ => by show y ≠ z; omega
        refine ⟨fun σ' H' => ∃ (x5 : Option V) (ms : List Nat), σ' = [some (.ref a), some (.ref r), some (.ref Fo), some (.int (N : Int)), some (.ref Pl), x5, some (.ref M), none, none, none, none, none] ∧ H' M = some (.lst (natsV ms)) ∧ ms.length = N ∧ (∀ i, i < N → ms.getD i 0 < m) ∧ (∀ j, j < 3 → ms.getD ([x, y, z].getD j 0) 0 = [q.1, q.2.1, q.2.2].getD j 0) ∧ But M H5 H', ?_, ?_⟩
        · refine ⟨_, rfl, by omega, by omega, ?_⟩
          refine for_range (n := ((3 : Int)).toNat) (fun i σ' H' => ∃ (x5 : Option V) (ms : List Nat), σ' = [some (.ref a), some (.ref r), some (.ref Fo), some (.int (N : Int)), some (.ref Pl), x5, some (.ref M), none, none, none, none, none] ∧ H' M = some (.lst (natsV ms)) ∧ ms.length = N ∧ (∀ i, i < N → ms.getD i 0 < m) ∧ (∀ j, j < i → ms.getD ([x, y, z].getD j 0) 0 = [q.1, q.2.1, q.2.2].getD j 0) ∧ But M H5 H') ?_ ?_ ?_
          · exact ⟨_, ms0, rfl, hM, hml, hmb, fun j hj => absurd hj (Nat.not_lt_zero _), fun _ _ _ e => e⟩
          · rintro i _ H' hi ⟨x5, ms, rfl, hM', hl', hb', hj', bt⟩
            have hi : i < 3 := hi
            have hF' := bt _ _ (ne_of hF5 hM (by intro z; cases z)) hF5
            have hu' := bt _ _ (ne_of hu5 hM (by intro z; cases z)) hu5
            have hP' := bt _ _ (Ne.symm MP) hP5
            rw [show (0 : Int) + (i : Int) = (i : Int) from Int.zero_add _]
            refine ⟨_, rfl, Fo, _, 0, _, rfl, rfl, SqT.of hF', rfl, _, rfl, u, _, (i : Int), _, rfl, rfl, SqT.of hu', atI_nat (at3 _ _ _ i hi), _, rfl, _, rfl, _, rfl, Pl, _, (i : Int), _, rfl, rfl, SqL.of hP', atI_nat (at3 _ _ _ i hi), M, _, _, [x, y, z].getD i 0, rfl, rfl, hM', by rw [show (natsV ms).length = N from by unfold natsV; rw [List.length_map, hl']]; exact ixN_of (hx i hi), ?_⟩
            rw [nats_set]
            refine ⟨_, ms.set ([x, y, z].getD i 0) ([q.1, q.2.1, q.2.2].getD i 0), rfl, upd_same, by rw [List.length_set, hl'], fun j hj => ?_, fun j hj => ?_, fun b o bM e => by rw [upd_ne bM]; exact bt b o bM e⟩
            · rw [List.getD_eq_getElem?_getD, List.getElem?_set]
              split
              · rw [if_pos (by rw [hl']; exact hx i hi)]
                exact hq i hi
              · rw [← List.getD_eq_getElem?_getD]
                exact hb' j hj
            · rw [List.getD_eq_getElem?_getD (l := ms.set _ _), List.getElem?_set]
              rcases Nat.lt_or_ge j i with l | l
              · rw [if_neg (Ne.symm (hne i j hi l)), ← List.getD_eq_getElem?_getD]
                exact hj' j l
              · obtain rfl : j = i := by omega
                rw [if_pos rfl, if_pos (by rw [hl']; exact hx j hi)]
                rfl
          · rintro _ H' ⟨x5, ms, rfl, hM', hl', hb', hj', bt⟩
            exact ⟨x5, ms, rfl, hM', hl', hb', hj', bt⟩
        · rintro _ H6 ⟨x5, ms, rfl, hM6, hl6, hb6, hj6, bt6⟩
          have kr6 := KeepR.but hM bt6
          have S6 := S5.but Ma Mb bt6
          have hP6 := bt6 _ _ (Ne.symm MP) hP5
          have R6 := RuleAt.kr R5 kr6
          have hF6 := kr6 _ _ hF5 (by intro _ z; cases z)
          have hcc6 := kr6 _ _ hcc5 (by intro _ z; cases z)
          refine ⟨fun σ' H' => ∃ (Os : Addr) (os : List Nat), σ' = [some (.ref a), some (.ref r), some (.ref Fo), some (.int (N : Int)), some (.ref Pl), x5, some (.ref M), none, some (.ref Os), none, none, none] ∧ H' Os = some (.lst (natsV os)) ∧ os.length ≤ N ∧ (∀ o ∈ os, o < N ∧ o ∉ [x, y, z]) ∧ Os ≠ a ∧ Os ≠ l ∧ Same H6 H', ?_, ?_⟩
          · refine ⟨_, rfl, _, rfl, by omega, by omega, fun Dd hD => ?_⟩
            obtain ⟨Da, Db⟩ := S6.ne hD
            refine lc_range (n := ((N : Int)).toNat) (fun i H' => Same H6 H' ∧ ∃ os : List Nat, H' Dd = some (.lst (natsV os)) ∧ os.length ≤ i ∧ ∀ o ∈ os, o < N ∧ o ∉ [x, y, z]) ?_ ?_ ?_
            · exact ⟨Same.new hD, [], upd_same, Nat.le_refl _, fun z hz => by cases hz⟩
            · rintro i H7 hi ⟨s7, os, hd, hl, ho⟩
              rw [Int.toNat_natCast] at hi
              refine ⟨rfl, ?_⟩
              rw [show (0 : Int) + (i : Int) = (i : Int) from Int.zero_add _]
              refine ⟨_, rfl, _, rfl, Pl, _, rfl, .inl (SqL.of (s7 _ _ hP6)), rfl, rfl, _, rfl, ?_⟩
              have key := inV_nats i [x, y, z]
              by_cases hm3 : i ∈ [x, y, z]
              · rw [decide_eq_true hm3] at key
                refine ite_no (by show (!inV (V.int (i : Int)) (natsV [x, y, z])) = false; rw [key]; rfl) ?_
                exact ⟨s7, os, hd, by omega, ho⟩
              · rw [decide_eq_false hm3] at key
                refine ite_is (by show (!inV (V.int (i : Int)) (natsV [x, y, z])) = true; rw [key]; rfl) ?_
                refine ⟨_, rfl, _, hd, ?_, ?_, os ++ [i], ?_, ?_, ?_⟩
                · unfold natsV
                  rw [List.length_map]
                  exact Nat.lt_of_lt_of_le (by omega : os.length < 10) (by decide)
                · intro b o e
                  rw [upd_ne (ne_of_none e hD)]
                  exact s7 _ _ e
                · rw [upd_same, natsV_snoc]
                · rw [List.length_append]
                  show os.length + 1 ≤ i + 1
                  omega
                · intro o ho'
                  rcases List.mem_append.mp ho' with ho' | ho'
                  · exact ho o ho'
                  · rw [List.mem_singleton.mp ho']
                    exact ⟨hi, hm3⟩
            · rintro H7 ⟨s7, os, hd, hl, ho⟩
              rw [Int.toNat_natCast] at hl
              exact ⟨Dd, os, rfl, hd, hl, ho, Da, Db, s7⟩
          · rintro _ H7 ⟨Os, os, rfl, hO, hol, ho, Oa, Ob, s7⟩
            have R7 := R6.same s7
            refine ⟨_, rfl, _, rfl, r, M, A, st, m, ms, rfl, R7, s7 _ _ hM6, by omega, (by rw [hl6]; exact hb6), hsl, m4, fun d H8 s8 dn pd => ?_⟩
            rw [hl6] at pd
            have S8 := (S6.same s7).same s8
            have s68 := s7.trans s8
            have hP8 := s68 _ _ hP6
            have hO8 := s8 _ _ hO
            have R8 := R6.same s68
            have hF8 := s68 _ _ hF6
            have hcc8 := s68 _ _ hcc6
            have g0 : tri (begG st m ms) x y z = rootN st m (root (ringSys A st m ok hm) e) := by
              have h0 := hj6 0 (by decide)
              have h1 := hj6 1 (by decide)
              have h2 := hj6 2 (by decide)
              have e1 : q.1 = root (ringSys A st m ok hm) e / (m * m) := by rw [← eq3]; rfl
              have e2 : q.2.1 = root (ringSys A st m ok hm) e / m % m := by rw [← eq3]; rfl
              have e3 : q.2.2 = root (ringSys A st m ok hm) e % m := by rw [← eq3]; rfl
              exact RG3.tri_beg (Eq.trans h0 e1) (Eq.trans h1 e2) (Eq.trans h2 e3)
            have rend := RG3.ring_end hres
            have clt : ∀ k ∈ calls (ringSys A st m ok hm) e ++ [c], k < 3 := fun k hk => by
              rcases List.mem_append.mp hk with hk | hk
              · exact calls_lt3 _ k hk
              · rw [List.mem_singleton.mp hk]
                exact hres.1
            have cll : (calls (ringSys A st m ok hm) e ++ [c]).length ≤ 4201 := by
              rw [List.length_append]
              show _ + 1 ≤ _
              omega
            generalize calls (ringSys A st m ok hm) e ++ [c] = cs at rend clt cll hcc8
            generalize rootN st m (root (ringSys A st m ok hm) e) = n0 at rend g0
            refine ⟨fun σ' H' => ∃ (x7 : Option V) (d : Addr) (g : Pg), σ' = [some (.ref a), some (.ref r), some (.ref Fo), some (.int (N : Int)), some (.ref Pl), x5, some (.ref M), x7, some (.ref Os), some (.ref d), none, none] ∧ PD H' d N g ∧ ringN (tri g x y z) = true ∧ H' Pl = some (.lst (natsV [x, y, z])), ?_, ?_⟩
            · refine ⟨.t, _, rfl, Fo, _, 1, _, rfl, rfl, SqT.of hF8, rfl, cc, rfl, ⟨_, SqT.of hcc8⟩, ?_⟩
              refine for_it (walk_k (k := .t) (xs := natsV cs)) (fun i σ' H' => ∃ (x7 : Option V) (d : Addr) (g : Pg) (n' : Nat), σ' = [some (.ref a), some (.ref r), some (.ref Fo), some (.int (N : Int)), some (.ref Pl), x5, some (.ref M), x7, some (.ref Os), some (.ref d), none, none] ∧ StreamAt H' a l n' ∧ n' ≤ n + 13 + 2 * i ∧ Keep a l H8 H' ∧ PD H' d N g ∧ (∀ p, (g p).1 < A.length) ∧ tri g x y z = (cs.take i).foldl (stp A) n0) ?_ ?_ ?_ ?_
              · exact ⟨none, d, begG st m ms, n3, rfl, S8, by omega, fun _ _ _ _ e => e, pd, RG3.beg_lt hst hA ms, g0⟩
              · rintro i _ H' _ ⟨x7, d, g, n', rfl, S', _, kp, _⟩
                exact SqT.of (KeepR.of S8 kp _ _ hcc8 (by intro _ z; cases z))
              · rintro i xv _ H9 H' hi ⟨x7, d, g, n', rfl, S', hn', kp, pdc, gb, gt⟩ ⟨rfl, hx⟩
                obtain ⟨ci, hci, rfl⟩ := nats_get hx
                have c3 := clt ci (List.mem_of_getElem? hci)
                have hi : i < 4201 := by
                  have : (natsV cs).length = cs.length := List.length_map _
                  omega
                have hO9 := kp _ _ Oa Ob hO8
                have R9 := RuleAt.kr R8 (KeepR.of S8 kp)
                refine ⟨fun σ' H2 => ∃ (d : Addr) (g : Pg) (n'' : Nat), σ' = [some (.ref a), some (.ref r), some (.ref Fo), some (.int (N : Int)), some (.ref Pl), x5, some (.ref M), some (.int (ci : Int)), some (.ref Os), some (.ref d), none, none] ∧ StreamAt H2 a l n'' ∧ n'' ≤ n' + 2 ∧ Keep a l H' H2 ∧ PD H2 d N g ∧ (∀ p, (g p).1 < A.length) ∧ tri g x y z = (cs.take i).foldl (stp A) n0, ?_, ?_⟩
                · refine ⟨_, rfl, Nat.zero_le _, fun p hp => ?_⟩
                  have ep := Same.new (o := .lst []) hp
                  refine ⟨.list ((os.map fun x : Nat => (x : Int)).map PyData.int), .list [], .lst (SqL.of (by rw [← natsI]; exact ep _ _ hO9)) (dp_ints _), .lst (SqL.of upd_same) .nil, ints_shaped _, ints_shaped [], _, rfl, ?_⟩
                  rw [ints_nil]
                  have Sp := S'.same ep
                  have pdp := pdc.same ep
                  have kpp : Keep a l H' (upd H' p (.lst [])) := Keep.of ep
                  have hOp := ep _ _ hO9
                  have Rp := R9.same ep
                  generalize (upd H' p (.lst [])) = Hp' at Sp pdp kpp hOp Rp ⊢
                  by_cases he : os = []
                  · have e1 : (os.map fun x : Nat => (x : Int)).isEmpty = true := by rw [he]; rfl
                    rw [e1]
                    exact iteF ⟨d, g, n', rfl, Sp, by omega, kpp, pdp, gb, gt⟩
                  · have e1 : (os.map fun x : Nat => (x : Int)).isEmpty = false := by
                      cases os with
                      | nil => exact absurd rfl he
                      | cons y ys => rfl
                    have l1 : 1 ≤ os.length := by
                      cases os with
                      | nil => exact absurd rfl he
                      | cons y ys => show 1 ≤ ys.length + 1; omega
                    have ll : (natsV os).length = os.length := List.length_map _
                    rw [e1]
                    refine iteT ⟨_, rfl, a, l, n', 2, rfl, Sp, by omega, by decide, sm48 (by decide) (by decide), fun v H4' v0 v1 S4' k4' => ⟨rfl, _, rfl, ifD_2 (fun _ => ?_) (fun _ => ?_)⟩⟩
                    · refine ⟨_, rfl, _, rfl, _, rfl, _, rfl, a, l, Os, n' + 1, natsV os, rfl, S4', by omega, k4' _ _ Oa Ob hOp, Oa, Ob, by omega, by omega, fun j xo H5' hxo S5' k5' => ?_⟩
                      obtain ⟨o, ho1, rfl⟩ := nats_get hxo
                      obtain ⟨o1, o2⟩ := ho o (List.mem_of_getElem? ho1)
                      have k45 := k4'.trans k5'
                      refine ⟨r, d, o, A, st, m, N, g, rfl, RuleAt.kr Rp (KeepR.of Sp k45), gb, by omega, pdp.kr (KeepR.of Sp k45), fun d' H6' s6' dn6 pd6 => ?_⟩
                      refine ⟨d', movG A g o, n' + 1 + 1, rfl, S5'.same s6', by omega, (kpp.trans k45).trans (Keep.of s6'), pd6, RG3.mov_lt ok gb o, ?_⟩
                      rw [RG3.tri_out A g xy yz (fun z => o2 (by rw [z]; simp)) (fun z => o2 (by rw [z]; simp)) (fun z => o2 (by rw [z]; simp))]
                      exact gt
                    · exact ⟨d, g, n' + 1, rfl, S4', by omega, kpp.trans k4', pdp.kr (KeepR.of Sp k4'), gb, gt⟩
                · rintro _ H2' ⟨d, g, n'', rfl, S2', hn2', k2', pd2, gb2, gt2⟩
                  have k82 := kp.trans k2'
                  have hP2 := k82 _ _ Pa Pb hP8
                  refine ⟨_, rfl, _, rfl, _, rfl, _, rfl, Pl, _, (ci : Int), _, rfl, rfl, SqL.of hP2, atI_nat (at3 _ _ _ ci c3), r, d, [x, y, z].getD ci 0, A, st, m, N, g, rfl, RuleAt.kr R8 (KeepR.of S8 k82), gb2, by omega, pd2, fun d' H3' s3' dn3 pd3 => ?_⟩
                  refine ⟨_, d', _, n'', rfl, S2'.same s3', by omega, k82.trans (Keep.of s3'), pd3, RG3.mov_lt ok gb2 _, ?_⟩
                  rw [RG3.tri_at A g xy yz c3, gt2, List.take_add_one, hci, List.foldl_append]
                  rfl
              · rintro _ H' ⟨x7, d, g, n', rfl, S', hn', kp, pdc, gb, gt⟩
                refine ⟨x7, d, g, rfl, pdc, ?_, kp _ _ Pa Pb hP8⟩
                rw [gt, List.take_of_length_le (by rw [show (natsV cs).length = cs.length from List.length_map _]; exact Nat.le_refl _)]
                exact rend
            · rintro _ H9 ⟨x7, d, g, rfl, pd9, rg, hP9⟩
              have mp : ∀ i j, i < j → j < N → (i, j) ∈ prs N := fun i j h1 h2 => mem_prs.mpr ⟨h1, h2⟩
              obtain ⟨Tt, hd9, hT9⟩ := id pd9
              refine ⟨_, rfl, _, rfl, Pl, _, 0, _, rfl, rfl, SqL.of hP9, rfl, _, rfl, Pl, _, 1, _, rfl, rfl, SqL.of hP9, rfl, by show 2 ≤ sizeLine; decide, fun t1 ht1 => ?_⟩
              have e1 := Same.new (o := .tup [V.int (x : Int), V.int (y : Int)]) ht1
              have k1' : (upd H9 t1 (.tup [V.int (x : Int), V.int (y : Int)])) t1 = some (.tup ((pk2 (x, y)).map kV)) := upd_same
              refine ⟨d, .ref (Tt (x, y)), rfl, .inr ⟨_, pk2 (x, y), t1, .inl (e1 _ _ hd9), rfl, k1', (pd_val (mp x y xy (by omega))).symm⟩, ?_⟩
              refine ⟨Tt (x, y), _, 1, .bl (g (x, y)).2, rfl, rfl, SqT.of (e1 _ _ (hT9 _ (mp x y xy (by omega)))), rfl, ?_⟩
              refine ⟨_, rfl, _, rfl, Pl, _, 0, _, rfl, rfl, SqL.of (e1 _ _ hP9), rfl, _, rfl, Pl, _, 2, _, rfl, rfl, SqL.of (e1 _ _ hP9), rfl, by show 2 ≤ sizeLine; decide, fun t2 ht2 => ?_⟩
              have e2 := e1.trans (Same.new (o := .tup [V.int (x : Int), V.int (z : Int)]) ht2)
              have k2' : (upd (upd H9 t1 (.tup [V.int (x : Int), V.int (y : Int)])) t2 (.tup [V.int (x : Int), V.int (z : Int)])) t2 = some (.tup ((pk2 (x, z)).map kV)) := upd_same
              refine ⟨d, .ref (Tt (x, z)), rfl, .inr ⟨_, pk2 (x, z), t2, .inl (e2 _ _ hd9), rfl, k2', (pd_val (mp x z (by omega) zN)).symm⟩, ?_⟩
              refine ⟨Tt (x, z), _, 1, .bl (g (x, z)).2, rfl, rfl, SqT.of (e2 _ _ (hT9 _ (mp x z (by omega) zN))), rfl, ?_⟩
              refine ⟨_, rfl, _, rfl, Pl, _, 1, _, rfl, rfl, SqL.of (e2 _ _ hP9), rfl, _, rfl, Pl, _, 2, _, rfl, rfl, SqL.of (e2 _ _ hP9), rfl, by show 2 ≤ sizeLine; decide, fun t3 ht3 => ?_⟩
              have e3 := e2.trans (Same.new (o := .tup [V.int (y : Int), V.int (z : Int)]) ht3)
              have k3' : (upd (upd (upd H9 t1 (.tup [V.int (x : Int), V.int (y : Int)])) t2 (.tup [V.int (x : Int), V.int (z : Int)])) t3 (.tup [V.int (y : Int), V.int (z : Int)])) t3 = some (.tup ((pk2 (y, z)).map kV)) := upd_same
              refine ⟨d, .ref (Tt (y, z)), rfl, .inr ⟨_, pk2 (y, z), t3, .inl (e3 _ _ hd9), rfl, k3', (pd_val (mp y z yz zN)).symm⟩, ?_⟩
              refine ⟨Tt (y, z), _, 1, .bl (g (y, z)).2, rfl, rfl, SqT.of (e3 _ _ (hT9 _ (mp y z yz zN))), rfl, ?_⟩
              refine ⟨by show 3 ≤ sizeLine; decide, fun L4 hL4 => ?_⟩
              have e4 := e3.trans (Same.new (o := .lst [V.bl (g (x, y)).2, V.bl (g (x, z)).2, V.bl (g (y, z)).2]) hL4)
              have gL : (upd (upd (upd (upd H9 t1 (.tup [V.int (x : Int), V.int (y : Int)])) t2 (.tup [V.int (x : Int), V.int (z : Int)])) t3 (.tup [V.int (y : Int), V.int (z : Int)])) L4 (.lst [V.bl (g (x, y)).2, V.bl (g (x, z)).2, V.bl (g (y, z)).2])) L4 = some (.lst [V.bl (g (x, y)).2, V.bl (g (x, z)).2, V.bl (g (y, z)).2]) := upd_same
              refine ⟨_, rfl, by show 3 ≤ sizeLine; decide, fun L5 hL5 => ⟨by show 3 ≤ sizeLine; decide, fun L6 hL6 => ⟨by show 2 ≤ sizeLine; decide, fun t7 ht7 => ?_⟩⟩⟩
              have s5 := Same.new (o := .lst [V.bl false, V.bl true, V.bl false]) hL5
              have s6 := Same.new (o := .lst [V.bl true, V.bl false, V.bl true]) hL6
              have s7 := Same.new (o := .tup [V.ref L5, V.ref L6]) ht7
              have s57 := (s5.trans s6).trans s7
              refine ⟨.list ([(g (x, y)).2, (g (x, z)).2, (g (y, z)).2].map PyData.bool), [.list ([false, true, false].map PyData.bool), .list ([true, false, true].map PyData.bool)], .lst (SqL.of (s57 _ _ gL)) (bls_dp [(g (x, y)).2, (g (x, z)).2, (g (y, z)).2]), .tup (SqT.of upd_same) (.cons (.lst (SqL.of (s7 _ _ (s6 _ _ upd_same))) (bls_dp [false, true, false])) (.cons (.lst (SqL.of (s7 _ _ upd_same)) (bls_dp [true, false, true])) .nil)), bls_c _, bls_cc _ _, bls_d _, ?_⟩
              rw [any_ring (RG3.ring_flags rg)]
              refine ⟨true, rfl, iteT ?_⟩
              refine ⟨_, rfl, _, rfl, d, N, g, rfl, by omega, pd9.same (e4.trans s57), fun b H' _ _ hno => ?_⟩
              rw [hno x y z xy yz zN rg]
              exact ⟨false, rfl, kk H'⟩
end
end PA

set_option maxHeartbeats 4000000
/-! a text times an int; replace within a def: behind `name = e op 1` a token is out -/
namespace PA
open PySem PySem.Spec PyProof.Rows L2
section
variable {X : Cx}
def repS (z : Str) (k : Nat) : Str := ⟨(List.replicate k z.cps).foldl (· ++ ·) #[]⟩
def rRepS : R2 := fun x y H Q => ∃ (z : Str) (k : Int), x = .str z ∧ y = .int k ∧ 1 ≤ k ∧ k ≤ 100 ∧ z.length = 1 ∧ (repS z k.toNat).length ≤ 1000 ∧ Q (.str (repS z k.toNat)) H
theorem op_repS : OpR X (binaryOp .Mult) rRepS := by
  intro pins s σ H x y v u Q I rx ry h
  obtain ⟨z, k, rfl, rfl, h1, h2, hz, hl, q⟩ := h
  obtain ⟨tx, rfl⟩ := rx
  obtain ⟨ty, rfl⟩ := ry
  have hlo : ¬ k < -(2 ^ 63 : Int) := by omega
  have hhi : ¬ k ≥ (2 ^ 63 : Int) := by omega
  refine PySem.P.mul_str (by rw [decide_eq_false hlo, decide_eq_false hhi]; rfl) (fun _ _ => ?_) (fun _ _ => ?_) ?_
  · rw [hz]
    have : (1 : Int) ≤ (2 ^ 63 - 1) / k := (Int.le_ediv_iff_mul_le (by omega)).mpr (by omega)
    show ¬ (((1 : Nat) : Int) > (2 ^ 63 - 1) / k)
    omega
  · rw [hz, Nat.one_mul]
    have hk : k.toNat ≤ 100 := by omega
    exact decide_eq_false (Nat.not_lt.mpr (Nat.le_trans hk (by decide)))
  · rw [if_neg (by omega)]
    by_cases e : k = 1
    · subst e
      rw [if_pos (by simp)]
      refine ⟨.str (repS z 1), H, I, ⟨tx, ?_⟩, q⟩
      unfold repS
      simp
    · rw [if_neg (by simp [e, hz])]
      exact ⟨Nat.le_trans hl (by decide), .str (repS z k.toNat), H, I.tok _, ⟨_, rfl⟩, q⟩
open CwR
/-- name = e op (a written int): behind it a token is out -/
theorem pss_bump {i j : Nat} {x : Str} {k : Int} {e : Expr} {te : TE} {r : R2} {op : Operator} {rest : List Stmt} {u : TS} {cpos p2 pos' pos : Pos} (hN : X.N.Nodup) (hi : X.N[i]? = some x) (hx : Loc X.env.scope x) (he : PE X e te) (ho : OpR X (binaryOp op) r) (h2 : PSsT X rest u)
    (hs : swapsWith (.BinOp e op (.Constant (.int k) j cpos) p2) (some (.Name x pos')) pos.line X.env = pure false := by rfl) (hf : X.fn x = true ∨ X.env.scope.names.lookup x = some .local := by first | exact .inl rfl | exact .inr rfl | assumption) :
    PSs X (.Assign [.Name x pos'] (.BinOp e op (.Constant (.int k) j cpos) p2) pos :: rest) (tSeq (tAsg (tOp r te (tC (.int k))) (gName i)) u) := by
  refine ⟨fun pins s σ H D I h => ?_⟩
  refine wpAny_execs_cons (wpAny_Assign_Name ?_ hs)
  refine wpAny_BinOp (thn (he.run pins s σ H _ I h) fun v s1 ⟨y, H1, I1, r1, q1⟩ => ?_)
  refine wpAny_Constant_int ?_
  refine wpAny_mono (PySem.wpAny_toks (ho pins _ σ H1 y (.int k) v (.int k s1.toks) _ (I1.tok (s1.toks + 1)) r1 ⟨_, rfl⟩ q1)) (fun v3 s3 q3 => ?_) fun _ _ z => z.2
  obtain ⟨hk3, y3, H3, I3, r3, q3⟩ := q3
  have hk3 : s1.toks + 1 ≤ s3.toks := hk3
  refine wpAny_mono (PySem.wpAny_toks (store_ok (Q := fun _ s2 => Inv X pins (σ.set i (some y3)) H3 s2) I3 hN hi hx r3 (fun _ I2 => I2) hf)) (fun _ s2 q => ?_) fun _ _ z => z.2
  have hk : s3.toks ≤ s2.toks := q.1
  exact h2 pins s2 _ H3 D (by omega) q.2 q3
theorem psst_cut {st : Stmt} {rest : List Stmt} {t u : TS} (h1 : PST X st t) (h2 : PSsT X rest u) : PSsT X (st :: rest) (C8.tCut t u) := by
  intro pins s σ H D h0 I h
  obtain ⟨Mid, hm, hu⟩ := h
  refine wpAny_execs_cons (wpAny_mono (PySem.wpAny_toks (h1 pins s σ H { D with nx := Mid } h0 I hm)) (fun f s1 q => ?_) fun _ _ x => x.2)
  obtain ⟨hk, q⟩ := q
  cases f with
  | next =>
    obtain ⟨σ', H', I', q⟩ := q
    exact h2 pins s1 σ' H' D (Nat.le_trans h0 hk) I' (hu σ' H' q)
  | ret v => exact q
  | brk => exact q
  | cont => exact q
/-- name = e, a token is out -/
theorem pst_set {i : Nat} {x : Str} {e : Expr} {te : TE} {pos' pos : Pos} (hN : X.N.Nodup) (hi : X.N[i]? = some x) (hx : Loc X.env.scope x) (he : PET X e te) (hs : swapsWith e (some (.Name x pos')) pos.line X.env = pure false := by rfl) (hf : X.fn x = true ∨ X.env.scope.names.lookup x = some .local := by first | exact .inl rfl | exact .inr rfl | assumption) :
    PST X (.Assign [.Name x pos'] e pos) (tAsg te (gName i)) := by
  intro pins s σ H D h0 I h
  refine wpAny_Assign_Name (thn (he pins s σ H _ h0 I h) fun v s1 ⟨y, H1, I1, r1, q1⟩ => ?_) hs
  exact store_ok I1 hN hi hx r1 (fun s2 I2 => ⟨_, H1, I2, q1⟩) hf
end
end PA

set_option maxHeartbeats 8000000
namespace PA
open PySem L2 RZ
open C8 (pss_cut tCut)
open CwR
abbrev sJth : Stmt := top 54
abbrev sPLast : Stmt := top 55
abbrev sgn (c : Nat) : Str := ⟨#[c]⟩
def posS (w : Str) (s : Nat) : List Nat := (List.range w.length).filter fun k => decide (w.cps.toList[k]? = some s)
def spJth : Sp := fun vs H Q _ => ∃ (w : Str) (s : Nat) (j p : Nat), vs = [.str w, .str (sgn s), .int (j : Int)] ∧ 1 ≤ j ∧ j ≤ 3 ∧ w.length ≤ 100 ∧ (posS w s)[j - 1]? = some p ∧ ∀ H', Same H H' → Q (.int (p : Int)) H'
theorem call_len_strK {X : Cx} : CallR X (.builtin "len") (fun xs H Q => ∃ z, xs = [.str z] ∧ z.length ≤ sizeLine ∧ Q (.int z.length) H) := call_len_str
theorem sgn_eq (a b : Nat) : decide (V.str (sgn a) = V.str (sgn b)) = decide (a = b) := by
  by_cases h : a = b
  · subst h
    simp
  · rw [decide_eq_false h, decide_eq_false]
    intro z
    injection z with z
    injection z with z
    exact h (by simpa using z)
section
variable {P : Program} {w : World} {K : PySem.W.Frag} {mg : Str → Option Value} {base : Heap} {C : Addr}
theorem scJth : FnScope ["_law_word", "_law_sign", "_law_j", "_law_k"] ["_law_word", "_law_sign", "_law_j"] (defScope sJth) := ⟨rfl, rfl, rfl, by decide +kernel, rfl, by decide +kernel, by decide +kernel⟩
theorem ok_jth {f : Addr} {fd : FuncData} (F : Fun K "_law_p_jth" "_law_p_jth" sJth f fd) (T : Txt K mg C) : FnOk P w K mg base CX0 1 f fd ["_law_word", "_law_sign", "_law_j"] spJth := by
  refine F.ok scJth (fun vs H Q E h => ?_) (fun cdv A0 outer s H vs Q E hr h => ?_)
  · obtain ⟨_, _, j, _, rfl, _⟩ := h
    rfl
  · obtain ⟨z, c, j, p, rfl, j1, j2, hz, hp, kk⟩ := h
    refine ⟨_, pss_one (ps_ret (pe_ix ix_list (pe_lc (own := [("_law_k", 3)]) (g := gName 3) (by rfl) scJth.nd (pi_range1 (by rfl) T.range_ (pa_cons (pe_callB call_len_str (by rfl) T.len_ PySem.boot_len (pa_cons (pv 0) pa_nil)) pa_nil)) (blkOk_by (N := ["_law_word", "_law_sign", "_law_j", "_law_k"]) (sc := defScope sJth) (by decide +kernel))
        (fun _ _ _ _ _ => pg_name (i := 3) scJth.nd rfl (Or.inl rfl)) (fun _ _ _ _ _ => pts_one (pt_cmpR op_eq (pe_ix ix_str (pv 0) (pv 3) (fun _ _ => rfl)) (pv 1) (nomark _)))
        (fun _ _ _ _ _ => pv 3)) (pe_op op_sub (pv 2) pe_int) (fun _ _ => rfl))), ?_⟩
    have hz63 : z.length ≤ sizeLine := Nat.le_trans hz (by decide)
    refine ⟨_, rfl, z, rfl, hz63, (z.length : Int), rfl, by omega, by omega, fun Dc hDc => ?_⟩
    have eD := Same.new (o := .lst []) hDc
    refine lc_range (n := ((z.length : Int)).toNat) (fun i H' => Same H H' ∧ H' Dc = some (.lst (natsV ((List.range i).filter fun k => decide (z.cps.toList[k]? = some c))))) ⟨eD, upd_same⟩ ?_ ?_
    · rintro i H2 hi ⟨s2, hd⟩
      have hi : i < z.length := hi
      obtain ⟨y, hy⟩ : ∃ y, z.cps.toList[i]? = some y := ⟨_, List.getElem?_eq_getElem (by rw [Array.length_toList]; exact hi)⟩
      refine ⟨rfl, ?_⟩
      rw [show (0 : Int) + (i : Int) = (i : Int) from Int.zero_add _]
      refine ⟨_, rfl, _, rfl, z, (i : Int), y, rfl, rfl, hz63, atI_nat hy, _, rfl, rfl, _, rfl, ?_⟩
      rw [sgn_eq]
      have e : (List.range (i + 1)).filter (fun k => decide (z.cps.toList[k]? = some c)) = (List.range i).filter (fun k => decide (z.cps.toList[k]? = some c)) ++ if decide (y = c) = true then [i] else [] := by
        rw [List.range_succ, List.filter_append, List.filter_cons, hy]
        simp only [Option.some.injEq, List.filter_nil]
      cases hc : decide (y = c) with
      | false =>
        rw [hc, if_neg (by decide), List.append_nil] at e
        refine iteF ?_
        rw [e]
        exact ⟨s2, hd⟩
      | true =>
        rw [hc, if_pos rfl] at e
        refine iteT ?_
        refine ⟨_, rfl, _, hd, ?_, ?_, ?_⟩
        · unfold natsV
          rw [List.length_map]
          have := List.length_filter_le (fun k => decide (z.cps.toList[k]? = some c)) (List.range i)
          rw [List.length_range] at this
          exact Nat.lt_of_le_of_lt (by omega : _ ≤ 100) (by decide)
        · intro b o q
          rw [upd_ne (ne_of_none q hDc)]
          exact s2 _ _ q
        · rw [upd_same, e]
          unfold natsV
          rw [List.map_append]
          rfl
    · rintro H2 ⟨s2, hd⟩
      have hd : H2 Dc = some (.lst (natsV (posS z c))) := hd
      refine ⟨_, rfl, _, _, rfl, rfl, Dc, _, _, .int (p : Int), rfl, rfl, SqL.of hd, ?_, kk H2 s2⟩
      rw [show (j : Int) - 1 = ((j - 1 : Nat) : Int) by omega]
      refine atI_nat ?_
      unfold natsV
      rw [List.getElem?_map, hp]
      rfl
end
end PA

set_option maxHeartbeats 4000000
/-! a power rings exactly if the rule does -/
namespace RG3
open PwM (cn pst prow dec pw OkQ ps sq)
variable {A : List Rn} {k : Nat}
abbrev Pr := Nat × Nat × Nat
def encN (k : Nat) (n : Nd) (p : Pr) : Nd := (enc k n.1 p.1 p.2.1, enc k n.2.1 p.1 p.2.2, enc k n.2.2 p.2.1 p.2.2)
def pAt (p : Pr) (c : Nat) : Nat := match c with
  | 0 => p.1
  | 1 => p.2.1
  | _ => p.2.2
def pSet (p : Pr) (c v : Nat) : Pr := match c with
  | 0 => (v, p.2.1, p.2.2)
  | 1 => (p.1, v, p.2.2)
  | _ => (p.1, p.2.1, v)
def POk (k : Nat) (p : Pr) : Prop := p.1 < k ∧ p.2.1 < k ∧ p.2.2 < k
theorem enc_ring (n : Nd) (p : Pr) : ringN (encN k n p) = ringN n := rfl
theorem pSet_ok {p : Pr} (h : POk k p) {c v : Nat} (hv : v < k) : POk k (pSet p c v) := by
  obtain ⟨h1, h2, h3⟩ := h
  match c with
  | 0 => exact ⟨hv, h2, h3⟩
  | 1 => exact ⟨h1, hv, h3⟩
  | _ + 2 => exact ⟨h1, h2, hv⟩
theorem pAt_lt {p : Pr} (h : POk k p) (c : Nat) : pAt p c < k := by
  obtain ⟨h1, h2, h3⟩ := h
  match c with
  | 0 => exact h1
  | 1 => exact h2
  | _ + 2 => exact h3
theorem pAt_set (p : Pr) (c v : Nat) : pAt (pSet p c v) c = v := by
  match c with
  | 0 => rfl
  | 1 => rfl
  | _ + 2 => rfl
theorem pSet_set (p : Pr) (c v w : Nat) : pSet (pSet p c v) c w = pSet p c w := by
  match c with
  | 0 => rfl
  | 1 => rfl
  | _ + 2 => rfl
theorem pSet_at (p : Pr) (c : Nat) : pSet p c (pAt p c) = p := by
  match c with
  | 0 => rfl
  | 1 => rfl
  | _ + 2 => rfl
theorem pw_stp {n : Nd} {p : Pr} (hn : NdLt A.length n) (hp : POk k p) (c : Nat) : stp (pw A k) (encN k n p) c = if pAt p c + 1 < k then encN k n (pSet p c (pAt p c + 1)) else encN k (stp A n c) (pSet p c 0) := by
  obtain ⟨n1, n2, n3⟩ := hn
  obtain ⟨p1, p2, p3⟩ := hp
  match c with
  | 0 =>
    have e1 := (pw_one (A := A) (k := k) n1 p1 p2).1
    have e2 := (pw_one (A := A) (k := k) n2 p1 p3).1
    show ((one (pw A k) (enc k n.1 p.1 p.2.1) false, one (pw A k) (enc k n.2.1 p.1 p.2.2) false, enc k n.2.2 p.2.1 p.2.2) : Nd) = if p.1 + 1 < k then _ else _
    rw [e1, e2]
    by_cases g : p.1 + 1 < k
    · rw [if_pos g, if_pos g, if_pos g]
      rfl
    · rw [if_neg g, if_neg g, if_neg g]
      rfl
  | 1 =>
    have e1 := (pw_one (A := A) (k := k) n1 p1 p2).2
    have e2 := (pw_one (A := A) (k := k) n3 p2 p3).1
    show ((one (pw A k) (enc k n.1 p.1 p.2.1) true, enc k n.2.1 p.1 p.2.2, one (pw A k) (enc k n.2.2 p.2.1 p.2.2) false) : Nd) = if p.2.1 + 1 < k then _ else _
    rw [e1, e2]
    by_cases g : p.2.1 + 1 < k
    · rw [if_pos g, if_pos g, if_pos g]
      rfl
    · rw [if_neg g, if_neg g, if_neg g]
      rfl
  | c + 2 =>
    have e1 := (pw_one (A := A) (k := k) n2 p1 p3).2
    have e2 := (pw_one (A := A) (k := k) n3 p2 p3).2
    show ((enc k n.1 p.1 p.2.1, one (pw A k) (enc k n.2.1 p.1 p.2.2) true, one (pw A k) (enc k n.2.2 p.2.1 p.2.2) true) : Nd) = if p.2.2 + 1 < k then _ else _
    rw [e1, e2]
    by_cases g : p.2.2 + 1 < k
    · rw [if_pos g, if_pos g, if_pos g]
      rfl
    · rw [if_neg g, if_neg g, if_neg g]
      rfl
section
variable {st : List Nat} {m : Nat} {ok : LF.TOk A} {ok' : LF.TOk (pw A k)} {hm : 0 < m} {hm' : 0 < m * k}
theorem ps_at {M N : Nat} (hM : M < m * k) (hN : N < m * k) : (ps st m k).getD (M * (m * k) + N) 0 = cn k (st.getD (M / k * m + N / k) 0, M % k, N % k) := by
  have hi := tri_ix hM hN
  rw [PwM.ps_get hi]
  have e1 : (M * (m * k) + N) / (m * k) = M := by
    rw [Nat.mul_comm, Nat.mul_add_div (by omega), Nat.div_eq_of_lt hN, Nat.add_zero]
  have e2 : (M * (m * k) + N) % (m * k) = N := by
    rw [Nat.mul_comm, Nat.mul_add_mod, Nat.mod_eq_of_lt hN]
  unfold sq
  rw [e1, e2]
theorem root_of {a b c : Nat} (hb : b < m) (hc : c < m) : rootN st m ((a * m + b) * m + c) = ((st.getD (a * m + b) 0, false), (st.getD (a * m + c) 0, false), (st.getD (b * m + c) 0, false)) := by
  have h0 : 0 < m := by omega
  have e1 : ((a * m + b) * m + c) / m = a * m + b := by
    rw [Nat.mul_comm, Nat.mul_add_div h0, Nat.div_eq_of_lt hc, Nat.add_zero]
  have e2 : (a * m + b) / m = a := by
    rw [Nat.mul_comm, Nat.mul_add_div h0, Nat.div_eq_of_lt hb, Nat.add_zero]
  have e3 : (a * m + b) % m = b := by rw [Nat.mul_comm, Nat.mul_add_mod, Nat.mod_eq_of_lt hb]
  have e4 : ((a * m + b) * m + c) % m = c := by rw [Nat.mul_comm, Nat.mul_add_mod, Nat.mod_eq_of_lt hc]
  unfold rootN
  rw [← Nat.div_div_eq_div_mul, e1, e2, e3, e4]
theorem root_lt3 {a b c : Nat} (ha : a < m) (hb : b < m) (hc : c < m) : (a * m + b) * m + c < m * m * m := by
  have h1 := tri_ix ha hb
  have : (a * m + b + 1) * m ≤ m * m * m := Nat.mul_le_mul_right m h1
  rw [Nat.succ_mul] at this
  omega
theorem root_cut {p : Nat} (h : p < m * m * m) (hm : 0 < m) : p = (p / (m * m) * m + p / m % m) * m + p % m := by
  have e : p / (m * m) = p / m / m := (Nat.div_div_eq_div_mul ..).symm
  have h1 : p / m / m * m + p / m % m = p / m := Nat.div_add_mod' (p / m) m
  have h2 : p / m * m + p % m = p := Nat.div_add_mod' p m
  rw [e, h1, h2]
/-- the beginnings of a power -/
theorem pw_root {M N L : Nat} (hM : M < m * k) (hN : N < m * k) (hL : L < m * k) (hk : 0 < k) :
    rootN (ps st m k) (m * k) ((M * (m * k) + N) * (m * k) + L) = encN k (rootN st m ((M / k * m + N / k) * m + L / k)) (M % k, N % k, L % k) := by
  have q : ∀ {x : Nat}, x < m * k → x / k < m := fun {x} h => (Nat.div_lt_iff_lt_mul hk).mpr h
  rw [root_of hN hL, root_of (q hN) (q hL), ps_at hM hN, ps_at hM hL, ps_at hN hL]
  rfl
theorem pw_down (hk : 0 < k) (sA : ∀ s ∈ st, s < A.length) (hl : st.length = m * m) (p' : Nat) : ∃ p pr, POk k pr ∧ nd (ringSys (pw A k) (ps st m k) (m * k) ok' hm') p' = encN k (nd (ringSys A st m ok hm) p) pr := by
  have q : ∀ {x : Nat}, x < m * k → x / k < m := fun {x} h => (Nat.div_lt_iff_lt_mul hk).mpr h
  induction p' using Nat.strongRecOn with
  | _ p' ih =>
    by_cases hp : p' < m * k * (m * k) * (m * k)
    · have hM : p' / (m * k * (m * k)) < m * k := Nat.div_lt_of_lt_mul hp
      have hN : p' / (m * k) % (m * k) < m * k := Nat.mod_lt _ hm'
      have hL : p' % (m * k) < m * k := Nat.mod_lt _ hm'
      refine ⟨(p' / (m * k * (m * k)) / k * m + p' / (m * k) % (m * k) / k) * m + p' % (m * k) / k, (p' / (m * k * (m * k)) % k, p' / (m * k) % (m * k) % k, p' % (m * k) % k), ⟨Nat.mod_lt _ hk, Nat.mod_lt _ hk, Nat.mod_lt _ hk⟩, ?_⟩
      rw [nd_root (S := ringSys (pw A k) (ps st m k) (m * k) ok' hm') hp, nd_root (S := ringSys A st m ok hm) (root_lt3 (q hM) (q hN) (q hL))]
      show rootN (ps st m k) (m * k) p' = encN k (rootN st m _) _
      rw [← pw_root hM hN hL hk, ← root_cut hp hm']
    · obtain ⟨q', c, hc, rfl, hq⟩ := path_cases (S := ringSys (pw A k) (ps st m k) (m * k) ok' hm') hp
      obtain ⟨p, pr, hpr, e⟩ := ih q' hq
      rw [nd_child hc]
      show ∃ p pr, POk k pr ∧ stp (pw A k) (nd (ringSys (pw A k) (ps st m k) (m * k) ok' hm') q') c = _
      rw [e, pw_stp (nd_lt ok hm sA hl p) hpr]
      by_cases g : pAt pr c + 1 < k
      · rw [if_pos g]
        exact ⟨p, _, pSet_ok hpr g, rfl⟩
      · rw [if_neg g]
        refine ⟨child (ringSys A st m ok hm) p c, pSet pr c 0, pSet_ok hpr hk, ?_⟩
        rw [nd_child hc]
        rfl
theorem pw_has1 (hk : 0 < k) (sA : ∀ s ∈ st, s < A.length) (hl : st.length = m * m) (h : HasR (ringSys (pw A k) (ps st m k) (m * k) ok' hm')) : HasR (ringSys A st m ok hm) := by
  obtain ⟨p', c, hc, z⟩ := h
  have z : ringN (stp (pw A k) (nd (ringSys (pw A k) (ps st m k) (m * k) ok' hm') p') c) = true := z
  obtain ⟨p, pr, hpr, e⟩ := pw_down (ok := ok) (ok' := ok') (hm := hm) (hm' := hm') hk sA hl p'
  rw [e, pw_stp (nd_lt ok hm sA hl p) hpr] at z
  by_cases g : pAt pr c + 1 < k
  · rw [if_pos g] at z
    exact ring_has (p := p) z
  · rw [if_neg g] at z
    exact ⟨p, c, hc, z⟩
/-- idle calls -/
theorem idle (sA : ∀ s ∈ st, s < A.length) (hl : st.length = m * m) {p : Nat} {c : Nat} (hc : c < 3) : ∀ (d : Nat) (p' : Nat) (pr : Pr), POk k pr → pAt pr c + d + 1 = k → nd (ringSys (pw A k) (ps st m k) (m * k) ok' hm') p' = encN k (nd (ringSys A st m ok hm) p) pr →
    ∃ p'', nd (ringSys (pw A k) (ps st m k) (m * k) ok' hm') p'' = encN k (nd (ringSys A st m ok hm) p) (pSet pr c (k - 1)) := by
  intro d
  induction d with
  | zero =>
    intro p' pr hpr hd e
    refine ⟨p', ?_⟩
    rw [e, show k - 1 = pAt pr c by omega, pSet_at]
  | succ d ih =>
    intro p' pr hpr hd e
    have g : pAt pr c + 1 < k := by omega
    obtain ⟨p'', h⟩ := ih (child (ringSys (pw A k) (ps st m k) (m * k) ok' hm') p' c) (pSet pr c (pAt pr c + 1)) (pSet_ok hpr g) (by rw [pAt_set]; omega) (by
      rw [nd_child hc]
      show stp (pw A k) (nd (ringSys (pw A k) (ps st m k) (m * k) ok' hm') p') c = _
      rw [e, pw_stp (nd_lt ok hm sA hl p) hpr, if_pos g])
    rw [pSet_set] at h
    exact ⟨p'', h⟩
theorem pw_up (hk : 0 < k) (sA : ∀ s ∈ st, s < A.length) (hl : st.length = m * m) (p : Nat) : ∃ p', nd (ringSys (pw A k) (ps st m k) (m * k) ok' hm') p' = encN k (nd (ringSys A st m ok hm) p) (k - 1, k - 1, k - 1) := by
  have hk1 : k - 1 < k := by omega
  induction p using Nat.strongRecOn with
  | _ p ih =>
    by_cases hp : p < m * m * m
    · have ha : p / (m * m) < m := Nat.div_lt_of_lt_mul hp
      have hb : p / m % m < m := Nat.mod_lt _ hm
      have hc : p % m < m := Nat.mod_lt _ hm
      have f : ∀ {x : Nat}, x < m → x * k + (k - 1) < m * k := fun {x} h => by
        have : (x + 1) * k ≤ m * k := Nat.mul_le_mul_right k h
        rw [Nat.succ_mul] at this
        omega
      have d1 : ∀ x, (x * k + (k - 1)) / k = x := fun x => by
        rw [Nat.mul_comm, Nat.mul_add_div hk, Nat.div_eq_of_lt hk1, Nat.add_zero]
      have d2 : ∀ x, (x * k + (k - 1)) % k = k - 1 := fun x => by rw [Nat.mul_comm, Nat.mul_add_mod, Nat.mod_eq_of_lt hk1]
      refine ⟨((p / (m * m) * k + (k - 1)) * (m * k) + (p / m % m * k + (k - 1))) * (m * k) + (p % m * k + (k - 1)), ?_⟩
      rw [nd_root (S := ringSys (pw A k) (ps st m k) (m * k) ok' hm') (root_lt3 (f ha) (f hb) (f hc)), nd_root (S := ringSys A st m ok hm) hp]
      show rootN (ps st m k) (m * k) _ = encN k (rootN st m p) _
      rw [pw_root (f ha) (f hb) (f hc) hk, d1, d1, d1, d2, d2, d2, ← root_cut hp hm]
    · obtain ⟨q, c, hc, rfl, hq⟩ := path_cases (S := ringSys A st m ok hm) hp
      obtain ⟨p', e⟩ := ih q hq
      have g : ¬ pAt ((k - 1, k - 1, k - 1) : Pr) c + 1 < k := by
        have : pAt ((k - 1, k - 1, k - 1) : Pr) c = k - 1 := by
          match c with
          | 0 => rfl
          | 1 => rfl
          | _ + 2 => rfl
        omega
      have hall : POk k ((k - 1, k - 1, k - 1) : Pr) := ⟨hk1, hk1, hk1⟩
      have e2 : nd (ringSys (pw A k) (ps st m k) (m * k) ok' hm') (child (ringSys (pw A k) (ps st m k) (m * k) ok' hm') p' c) = encN k (nd (ringSys A st m ok hm) (child (ringSys A st m ok hm) q c)) (pSet (k - 1, k - 1, k - 1) c 0) := by
        rw [nd_child hc, nd_child hc]
        show stp (pw A k) (nd (ringSys (pw A k) (ps st m k) (m * k) ok' hm') p') c = encN k (stp A (nd (ringSys A st m ok hm) q) c) _
        rw [e, pw_stp (nd_lt ok hm sA hl q) hall, if_neg g]
      obtain ⟨p'', h⟩ := idle (ok := ok) (ok' := ok') (hm := hm) (hm' := hm') sA hl hc (k - 1) _ _ (pSet_ok hall hk) (by rw [pAt_set]; omega) e2
      rw [pSet_set] at h
      have e3 : pSet ((k - 1, k - 1, k - 1) : Pr) c (k - 1) = (k - 1, k - 1, k - 1) := by
        match c with
        | 0 => rfl
        | 1 => rfl
        | _ + 2 => rfl
      rw [e3] at h
      exact ⟨p'', h⟩
theorem pw_has2 (hk : 0 < k) (sA : ∀ s ∈ st, s < A.length) (hl : st.length = m * m) (h : HasR (ringSys A st m ok hm)) : HasR (ringSys (pw A k) (ps st m k) (m * k) ok' hm') := by
  obtain ⟨p, c, hc, z⟩ := h
  have z : ringN (stp A (nd (ringSys A st m ok hm) p) c) = true := z
  obtain ⟨p', e⟩ := pw_up (ok := ok) (ok' := ok') (hm := hm) (hm' := hm') hk sA hl p
  refine ⟨p', c, hc, ?_⟩
  show ringN (stp (pw A k) (nd (ringSys (pw A k) (ps st m k) (m * k) ok' hm') p') c) = true
  have g : ¬ pAt ((k - 1, k - 1, k - 1) : Pr) c + 1 < k := by
    have : pAt ((k - 1, k - 1, k - 1) : Pr) c = k - 1 := by
      match c with
      | 0 => rfl
      | 1 => rfl
      | _ + 2 => rfl
    omega
  have hk1 : k - 1 < k := by omega
  rw [e, pw_stp (nd_lt ok hm sA hl p) ⟨hk1, hk1, hk1⟩, if_neg g]
  exact z
end
end RG3

set_option maxHeartbeats 8000000
/-! the families order: the j-th last call (by all that three cases reach), marks that are moved -/
namespace RG3
open PwM (cn pst prow dec pw OkQ ps sq)
def lastA : Nat → List Rn
  | 1 => [(0, false, 0, true)]
  | 2 => [(0, false, 1, false), (2, false, 0, true), (0, false, 2, true)]
  | _ => [(0, false, 1, false), (2, false, 3, false), (4, false, 5, false), (6, false, 0, true), (0, false, 7, false), (8, false, 4, true), (9, false, 2, true), (2, false, 9, true), (4, false, 8, true), (0, false, 6, true)]
def maskA : Nat → Nat
  | 1 => 219
  | 2 => 99177533613839479440771655240585240539632780328057792701682835647
  | _ => 173628368647852529372854248578571753088818299691505042166548125099449778054478769206921731182422369396900041713009412134264389531523662437521063438363401781954247646180799093073977022515986096671456414902444475311940594408567763026861028295989742708240472683191865043651968183922727633616941222987548875438009879952434875582815467438684606644036138636618792757282535871367176790507469438541980564508283703524771799166340215475416972608095515707111727274913376724124852978586692905310655613734496468166663258277698026539741438675929724177352848350604887858487857113958317694841907676416538587134272758283789782187541084121159803523811610673155488248039249223412313024486518814163929152405595135859940636367469394913724491714679490554814277536167660454944482080325078328631349626873339051213755526248441203986986798556420180805504959763241727318783048598581271724262029473112250180683900874286744695244177061681942889450617220821899288146194156442480734472034003837341364198510470820138843234182362912669897616323934738274876903398368882757759549501310200617748014611904144628636254065283679063370054897468053696711130272552781543042624868996891075192488576466769232899998774013972155234497301544463759155208365476721848850897910609780238293184389961126438290883135589474032856214557594755347312824052692565654010900308413311615155347863067143966491078018797921828420868274964564805433019339845870197739354900279670257927900458818867089524460608207062165142491472315438932484576860513070328120177550320867127142431688090812004586755788108960276916434177209623044365298828630958582336465769820623755267611652017113580320143988458247835371145970020815983915212616574870768607680776850651520847545968286081555590354793733369921291681630516494130507059739829512749008857923957519287647408383982600513058005878089274397258086139440465927803274672314593742332726266287069799094175734389698501874604427453519721632698328288197563977229945083292682354193476726703750242865996887857966309731881104723484690286389133149616034317719286937426618364321577595094130204763431895864585997115911011198777341371041972977706066835340516191097952086114804592020484993961161212719972076227088844627316824820460759860168023932136323431640694417674148190088895423571370808065524538978987771080230180547861273504137596643509735871529116480874574417411508146002573080641724920772697808345041595252027465981977907244340736936610785918975
def codeS (s : Nat × Bool) : Nat := 2 * s.1 + s.2.toNat
def codeN (W : Nat) (n : Nd) : Nat := (codeS n.1 * W + codeS n.2.1) * W + codeS n.2.2
def decS (x : Nat) : Nat × Bool := (x / 2, x % 2 == 1)
def decN (W q : Nat) : Nd := (decS (q / W / W), decS (q / W % W), decS (q % W))
theorem decS_code (s : Nat × Bool) : decS (codeS s) = s := by
  obtain ⟨a, b⟩ := s
  unfold decS codeS
  cases b
  · simp
  · simp only [Bool.toNat_true]
    rw [Nat.mul_add_div (by decide), Nat.mul_add_mod]
    rfl
theorem codeS_lt {s : Nat × Bool} {L : Nat} (h : s.1 < L) : codeS s < 2 * L := by
  obtain ⟨a, b⟩ := s
  unfold codeS
  cases b
  · show 2 * a + 0 < _
    have h : a < L := h
    omega
  · show 2 * a + 1 < _
    have h : a < L := h
    omega
theorem decN_code {L : Nat} {n : Nd} (h : NdLt L n) : decN (2 * L) (codeN (2 * L) n) = n ∧ codeN (2 * L) n < 2 * L * (2 * L) * (2 * L) := by
  obtain ⟨h1, h2, h3⟩ := h
  have c1 := codeS_lt h1
  have c2 := codeS_lt h2
  have c3 := codeS_lt h3
  have hW : 0 < 2 * L := by omega
  refine ⟨?_, root_lt3 c1 c2 c3⟩
  unfold decN codeN
  have e1 : ((codeS n.1 * (2 * L) + codeS n.2.1) * (2 * L) + codeS n.2.2) / (2 * L) = codeS n.1 * (2 * L) + codeS n.2.1 := by
    rw [Nat.mul_comm, Nat.mul_add_div hW, Nat.div_eq_of_lt c3, Nat.add_zero]
  have e2 : (codeS n.1 * (2 * L) + codeS n.2.1) / (2 * L) = codeS n.1 := by
    rw [Nat.mul_comm, Nat.mul_add_div hW, Nat.div_eq_of_lt c2, Nat.add_zero]
  have e3 : (codeS n.1 * (2 * L) + codeS n.2.1) % (2 * L) = codeS n.2.1 := by rw [Nat.mul_comm, Nat.mul_add_mod, Nat.mod_eq_of_lt c2]
  have e4 : ((codeS n.1 * (2 * L) + codeS n.2.1) * (2 * L) + codeS n.2.2) % (2 * L) = codeS n.2.2 := by rw [Nat.mul_comm, Nat.mul_add_mod, Nat.mod_eq_of_lt c3]
  rw [e1, e2, e3, e4, decS_code, decS_code, decS_code]
/-- the mask is closed, no ring in it -/
def closedM (A : List Rn) (W mask : Nat) : Bool := (List.range (W * W * W)).all fun q => !mask.testBit q || (!ringN (decN W q) && mask.testBit (codeN W (stp A (decN W q) 0)) && mask.testBit (codeN W (stp A (decN W q) 1)) && mask.testBit (codeN W (stp A (decN W q) 2)))
theorem mask_none {A : List Rn} {mask : Nat} {ok : LF.TOk A} {hm : 0 < 1} (h : closedM A (2 * A.length) mask = true) (h0 : mask.testBit 0 = true) (h1 : 0 < A.length) : ¬ HasR (ringSys A [0] 1 ok hm) := by
  have at_ : ∀ {n : Nd}, NdLt A.length n → mask.testBit (codeN (2 * A.length) n) = true → ringN n = false ∧ ∀ c, c < 3 → mask.testBit (codeN (2 * A.length) (stp A n c)) = true := fun {n} hn hb => by
    obtain ⟨e, lt⟩ := decN_code hn
    have z := List.all_eq_true.mp h _ (List.mem_range.mpr lt)
    rw [hb, e] at z
    simp only [Bool.not_true, Bool.false_or, Bool.and_eq_true, Bool.not_eq_true'] at z
    obtain ⟨⟨⟨z1, z2⟩, z3⟩, z4⟩ := z
    refine ⟨z1, fun c hc => ?_⟩
    have hcc : c = 0 ∨ c = 1 ∨ c = 2 := by omega
    rcases hcc with rfl | rfl | rfl
    · exact z2
    · exact z3
    · exact z4
  refine no_ring (fun n => NdLt A.length n ∧ mask.testBit (codeN (2 * A.length) n) = true) (fun p hp => ?_) (fun n c hc hI => ⟨stp_lt ok hI.1 c, (at_ hI.1 hI.2).2 c hc⟩) fun n hI => (at_ hI.1 hI.2).1
  have hp : p = 0 := by omega
  subst hp
  refine ⟨⟨h1, h1, h1⟩, ?_⟩
  show mask.testBit (codeN (2 * A.length) ((0, false), (0, false), (0, false))) = true
  have e : codeN (2 * A.length) ((0, false), (0, false), (0, false)) = 0 := by simp [codeN, codeS]
  rw [e]
  exact h0
theorem last_none {j : Nat} (hj : j = 1 ∨ j = 2 ∨ j = 3) {ok : LF.TOk (lastA j)} {hm : 0 < 1} : ¬ HasR (ringSys (lastA j) [0] 1 ok hm) := by
  rcases hj with rfl | rfl | rfl
  · exact mask_none (mask := maskA 1) (by decide +kernel) (by decide +kernel) (by decide)
  · exact mask_none (mask := maskA 2) (by decide +kernel) (by decide +kernel) (by decide)
  · exact mask_none (mask := maskA 3) (by decide +kernel) (by decide +kernel) (by decide)
end RG3

set_option maxHeartbeats 8000000
namespace PA
open PySem L2 RZ
open C8 (pss_cut tCut)
open CwR
abbrev NPL : List Str := ["_law_j", "_law_words", "_law_found", "_law_at", "_law_row", "_law_sign", "_law_word", "_law_cut", "_law_turned"]
/-! ### the words, step by step -/
def swpS (z : Str) : Str := Txt.replace (Txt.replace (Txt.replace z (Str.ofString "a") (Str.ofString "c")) (Str.ofString "b") (Str.ofString "a")) (Str.ofString "c") (Str.ofString "b")
def wl1 : List Str := [(Str.ofString "ab")]
def cl1 : List Nat := [1, 1, 1]
def wl2 : List Str := [(Str.ofString "aabb"), (Str.ofString "baab"), (Str.ofString "abab")]
def cl2 : List Nat := [1, 1, 2, 3, 3, 3, 3]
def wl3 : List Str := [(Str.ofString "aaabbb"), (Str.ofString "baaabb"), (Str.ofString "abaabb"), (Str.ofString "bbaaab"), (Str.ofString "aababb"), (Str.ofString "babaab"), (Str.ofString "abbaab"), (Str.ofString "baabab"), (Str.ofString "ababab"), (Str.ofString "aabbab")]
def cl3 : List Nat := [1, 1, 2, 3, 4, 5, 6, 7, 7, 7, 8, 9, 9, 10, 10, 10, 10, 10, 10, 10, 10]
def wsT : Nat → Nat → Nat → List Str
  | 1, at', i => wl1.take (cl1.getD (2 * at' + i) 0)
  | 2, at', i => wl2.take (cl2.getD (2 * at' + i) 0)
  | _, at', i => wl3.take (cl3.getD (2 * at' + i) 0)
def nT : Nat → Nat
  | 1 => 1
  | 2 => 3
  | _ => 10
def rowsT (j : Nat) : List Rn := RG3.lastA j
def rowT (j at' : Nat) : Rn := (rowsT j).getD at' (0, false, 0, false)
theorem rowsT_eq {j : Nat} (h : j = 1 ∨ j = 2 ∨ j = 3) : (List.range (nT j)).map (rowT j) = rowsT j := by
  rcases h with rfl | rfl | rfl <;> decide +kernel
theorem rowsT_ok {j : Nat} (h : j = 1 ∨ j = 2 ∨ j = 3) : LF.TOk (rowsT j) ∧ (rowsT j).length = nT j ∧ 1 ≤ (rowsT j).length ∧ (rowsT j).length ≤ 10 := by
  rcases h with rfl | rfl | rfl
  · refine ⟨fun r hr => ?_, by decide, by decide, by decide⟩
    have : ∀ r ∈ rowsT 1, r.1 < (rowsT 1).length ∧ r.2.2.1 < (rowsT 1).length := by decide
    exact this r hr
  · refine ⟨fun r hr => ?_, by decide, by decide, by decide⟩
    have : ∀ r ∈ rowsT 2, r.1 < (rowsT 2).length ∧ r.2.2.1 < (rowsT 2).length := by decide
    exact this r hr
  · refine ⟨fun r hr => ?_, by decide, by decide, by decide⟩
    have : ∀ r ∈ rowsT 3, r.1 < (rowsT 3).length ∧ r.2.2.1 < (rowsT 3).length := by decide
    exact this r hr
/-- what is before a row, of its two halves -/
def halfV (r : Rn) (i : Nat) : List V := match i with
  | 0 => []
  | 1 => [.int (r.1 : Int), .bl r.2.1]
  | _ => [.int (r.1 : Int), .bl r.2.1, .int (r.2.2.1 : Int), .bl r.2.2.2]
/-- one step: the word z, the sign s -/
structure PStep (j : Nat) (z : Str) (s : Nat) (ws ws' : List Str) (ix : Nat) (tu : Bool) (z1 : Str) (cut : Nat) (z2 : Str) (pb pa : Nat) (z3 : Str) : Prop where
  e1 : sgn s ++ z = z1
  l1 : 1 ≤ z1.length ∧ z1.length ≤ 7
  lz : z.length ≤ 6
  cl : cut < z1.length
  at_ : ∀ c, c < z1.length → cut ≤ c → ∃ y, z1.cps.toList[c]? = some y ∧ decide (y = s) = decide (c = cut)
  e2 : cutS z1 none (some (cut : Int)) ++ cutS z1 (some ((cut + 1 : Nat) : Int)) none = z2
  l2a : (cutS z1 none (some (cut : Int))).length ≤ 7 ∧ (cutS z1 (some ((cut + 1 : Nat) : Int)) none).length ≤ 7
  l2 : z2.length ≤ 7
  hb : (posS z2 98)[j - 1]? = some pb
  ha : (posS z2 97)[j - 1]? = some pa
  ht : decide (pb < pa) = tu
  e3 : (if tu = true then swpS z2 else z2) = z3
  r1 : z2.length + (z2.length + 1) * (Str.ofString "c").length ≤ 16777216
  r2 : (Txt.replace z2 (Str.ofString "a") (Str.ofString "c")).length + ((Txt.replace z2 (Str.ofString "a") (Str.ofString "c")).length + 1) * (Str.ofString "a").length ≤ 16777216
  r3 : (Txt.replace (Txt.replace z2 (Str.ofString "a") (Str.ofString "c")) (Str.ofString "b") (Str.ofString "a")).length + ((Txt.replace (Txt.replace z2 (Str.ofString "a") (Str.ofString "c")) (Str.ofString "b") (Str.ofString "a")).length + 1) * (Str.ofString "b").length ≤ 16777216
  wl : ws.length ≤ 10
  e4 : (if inV (.str z3) (ws.map V.str) = true then ws else ws ++ [z3]) = ws'
  ixz : ws'[ix]? = some z3
  ixn : ∀ m z', m < ix → ws'[m]? = some z' → eqV (.str z') (.str z3) = false
def sgL (i : Nat) : Nat := if i = 0 then 97 else 98
def ixT (j at' i : Nat) : Nat := if i = 0 then (rowT j at').1 else (rowT j at').2.2.1
def tuT (j at' i : Nat) : Bool := if i = 0 then (rowT j at').2.1 else (rowT j at').2.2.2
def atDec (z1 : Str) (s cut : Nat) : Bool := (List.range z1.length).all fun c => decide (c < cut) || (match z1.cps.toList[c]? with | some y => decide (y = s) == decide (c = cut) | none => false)
theorem atDec_ok {z1 : Str} {s cut : Nat} (h : atDec z1 s cut = true) : ∀ c, c < z1.length → cut ≤ c → ∃ y, z1.cps.toList[c]? = some y ∧ decide (y = s) = decide (c = cut) := by
  intro c hc hcc
  have := List.all_eq_true.mp h c (List.mem_range.mpr hc)
  rw [decide_eq_false (Nat.not_lt.mpr hcc), Bool.false_or] at this
  cases hy : z1.cps.toList[c]? with
  | none => rw [hy] at this; cases this
  | some y =>
    rw [hy] at this
    exact ⟨y, rfl, eq_of_beq this⟩
theorem ixDec {ws : List Str} {ix : Nat} {z3 : Str} (h : ((ws.take ix).all fun z' => !eqV (.str z') (.str z3)) = true) : ∀ (m : Nat) z', m < ix → ws[m]? = some z' → eqV (.str z') (.str z3) = false := by
  intro m z' hm hz
  have h1 : (ws.take ix)[m]? = some z' := by rw [List.getElem?_take, if_pos hm]; exact hz
  have := List.all_eq_true.mp h z' (List.mem_of_getElem? h1)
  simpa using this
theorem pstep {j at' i : Nat} (hj : j = 1 ∨ j = 2 ∨ j = 3) (ha : at' < nT j) (hi : i < 2) : ∃ z z1 cut z2 pb pa z3, (wsT j at' i)[at']? = some z ∧ PStep j z (sgL i) (wsT j at' i) (wsT j at' (i + 1)) (ixT j at' i) (tuT j at' i) z1 cut z2 pb pa z3 := by
  have mk : ∀ (z z1 : Str) (cut : Nat) (z2 : Str) (pb pa : Nat) (z3 : Str), (wsT j at' i)[at']? = some z → PStep j z (sgL i) (wsT j at' i) (wsT j at' (i + 1)) (ixT j at' i) (tuT j at' i) z1 cut z2 pb pa z3 → ∃ z z1 cut z2 pb pa z3, (wsT j at' i)[at']? = some z ∧ PStep j z (sgL i) (wsT j at' i) (wsT j at' (i + 1)) (ixT j at' i) (tuT j at' i) z1 cut z2 pb pa z3 := fun z z1 cut z2 pb pa z3 h1 h2 => ⟨z, z1, cut, z2, pb, pa, z3, h1, h2⟩
  have hii : i = 0 ∨ i = 1 := by omega
  rcases hj with rfl | rfl | rfl
  · have h : at' = 0 := by
      have : nT 1 = 1 := rfl
      omega
    subst h
    rcases hii with rfl | rfl
    · exact mk (Str.ofString "ab") (Str.ofString "aab") 1 (Str.ofString "ab") 1 0 (Str.ofString "ab") (by decide +kernel) ⟨by decide +kernel, by decide +kernel, by decide +kernel, by decide +kernel, atDec_ok (by decide +kernel), by decide +kernel, by decide +kernel, by decide +kernel, by decide +kernel, by decide +kernel, by decide +kernel, by decide +kernel, by decide +kernel, by decide +kernel, by decide +kernel, by decide +kernel, by decide +kernel, by decide +kernel, ixDec (by decide +kernel)⟩
    · exact mk (Str.ofString "ab") (Str.ofString "bab") 2 (Str.ofString "ba") 0 1 (Str.ofString "ab") (by decide +kernel) ⟨by decide +kernel, by decide +kernel, by decide +kernel, by decide +kernel, atDec_ok (by decide +kernel), by decide +kernel, by decide +kernel, by decide +kernel, by decide +kernel, by decide +kernel, by decide +kernel, by decide +kernel, by decide +kernel, by decide +kernel, by decide +kernel, by decide +kernel, by decide +kernel, by decide +kernel, ixDec (by decide +kernel)⟩
  · have h : at' = 0 ∨ at' = 1 ∨ at' = 2 := by
      have : nT 2 = 3 := rfl
      omega
    rcases h with rfl | rfl | rfl <;> rcases hii with rfl | rfl
    · exact mk (Str.ofString "aabb") (Str.ofString "aaabb") 2 (Str.ofString "aabb") 3 1 (Str.ofString "aabb") (by decide +kernel) ⟨by decide +kernel, by decide +kernel, by decide +kernel, by decide +kernel, atDec_ok (by decide +kernel), by decide +kernel, by decide +kernel, by decide +kernel, by decide +kernel, by decide +kernel, by decide +kernel, by decide +kernel, by decide +kernel, by decide +kernel, by decide +kernel, by decide +kernel, by decide +kernel, by decide +kernel, ixDec (by decide +kernel)⟩
    · exact mk (Str.ofString "aabb") (Str.ofString "baabb") 4 (Str.ofString "baab") 3 2 (Str.ofString "baab") (by decide +kernel) ⟨by decide +kernel, by decide +kernel, by decide +kernel, by decide +kernel, atDec_ok (by decide +kernel), by decide +kernel, by decide +kernel, by decide +kernel, by decide +kernel, by decide +kernel, by decide +kernel, by decide +kernel, by decide +kernel, by decide +kernel, by decide +kernel, by decide +kernel, by decide +kernel, by decide +kernel, ixDec (by decide +kernel)⟩
    · exact mk (Str.ofString "baab") (Str.ofString "abaab") 3 (Str.ofString "abab") 3 2 (Str.ofString "abab") (by decide +kernel) ⟨by decide +kernel, by decide +kernel, by decide +kernel, by decide +kernel, atDec_ok (by decide +kernel), by decide +kernel, by decide +kernel, by decide +kernel, by decide +kernel, by decide +kernel, by decide +kernel, by decide +kernel, by decide +kernel, by decide +kernel, by decide +kernel, by decide +kernel, by decide +kernel, by decide +kernel, ixDec (by decide +kernel)⟩
    · exact mk (Str.ofString "baab") (Str.ofString "bbaab") 4 (Str.ofString "bbaa") 1 3 (Str.ofString "aabb") (by decide +kernel) ⟨by decide +kernel, by decide +kernel, by decide +kernel, by decide +kernel, atDec_ok (by decide +kernel), by decide +kernel, by decide +kernel, by decide +kernel, by decide +kernel, by decide +kernel, by decide +kernel, by decide +kernel, by decide +kernel, by decide +kernel, by decide +kernel, by decide +kernel, by decide +kernel, by decide +kernel, ixDec (by decide +kernel)⟩
    · exact mk (Str.ofString "abab") (Str.ofString "aabab") 3 (Str.ofString "aabb") 3 1 (Str.ofString "aabb") (by decide +kernel) ⟨by decide +kernel, by decide +kernel, by decide +kernel, by decide +kernel, atDec_ok (by decide +kernel), by decide +kernel, by decide +kernel, by decide +kernel, by decide +kernel, by decide +kernel, by decide +kernel, by decide +kernel, by decide +kernel, by decide +kernel, by decide +kernel, by decide +kernel, by decide +kernel, by decide +kernel, ixDec (by decide +kernel)⟩
    · exact mk (Str.ofString "abab") (Str.ofString "babab") 4 (Str.ofString "baba") 2 3 (Str.ofString "abab") (by decide +kernel) ⟨by decide +kernel, by decide +kernel, by decide +kernel, by decide +kernel, atDec_ok (by decide +kernel), by decide +kernel, by decide +kernel, by decide +kernel, by decide +kernel, by decide +kernel, by decide +kernel, by decide +kernel, by decide +kernel, by decide +kernel, by decide +kernel, by decide +kernel, by decide +kernel, by decide +kernel, ixDec (by decide +kernel)⟩
  · have h : at' = 0 ∨ at' = 1 ∨ at' = 2 ∨ at' = 3 ∨ at' = 4 ∨ at' = 5 ∨ at' = 6 ∨ at' = 7 ∨ at' = 8 ∨ at' = 9 := by
      have : nT 3 = 10 := rfl
      omega
    rcases h with rfl | rfl | rfl | rfl | rfl | rfl | rfl | rfl | rfl | rfl <;> rcases hii with rfl | rfl
    · exact mk (Str.ofString "aaabbb") (Str.ofString "aaaabbb") 3 (Str.ofString "aaabbb") 5 2 (Str.ofString "aaabbb") (by decide +kernel) ⟨by decide +kernel, by decide +kernel, by decide +kernel, by decide +kernel, atDec_ok (by decide +kernel), by decide +kernel, by decide +kernel, by decide +kernel, by decide +kernel, by decide +kernel, by decide +kernel, by decide +kernel, by decide +kernel, by decide +kernel, by decide +kernel, by decide +kernel, by decide +kernel, by decide +kernel, ixDec (by decide +kernel)⟩
    · exact mk (Str.ofString "aaabbb") (Str.ofString "baaabbb") 6 (Str.ofString "baaabb") 5 3 (Str.ofString "baaabb") (by decide +kernel) ⟨by decide +kernel, by decide +kernel, by decide +kernel, by decide +kernel, atDec_ok (by decide +kernel), by decide +kernel, by decide +kernel, by decide +kernel, by decide +kernel, by decide +kernel, by decide +kernel, by decide +kernel, by decide +kernel, by decide +kernel, by decide +kernel, by decide +kernel, by decide +kernel, by decide +kernel, ixDec (by decide +kernel)⟩
    · exact mk (Str.ofString "baaabb") (Str.ofString "abaaabb") 4 (Str.ofString "abaabb") 5 3 (Str.ofString "abaabb") (by decide +kernel) ⟨by decide +kernel, by decide +kernel, by decide +kernel, by decide +kernel, atDec_ok (by decide +kernel), by decide +kernel, by decide +kernel, by decide +kernel, by decide +kernel, by decide +kernel, by decide +kernel, by decide +kernel, by decide +kernel, by decide +kernel, by decide +kernel, by decide +kernel, by decide +kernel, by decide +kernel, ixDec (by decide +kernel)⟩
    · exact mk (Str.ofString "baaabb") (Str.ofString "bbaaabb") 6 (Str.ofString "bbaaab") 5 4 (Str.ofString "bbaaab") (by decide +kernel) ⟨by decide +kernel, by decide +kernel, by decide +kernel, by decide +kernel, atDec_ok (by decide +kernel), by decide +kernel, by decide +kernel, by decide +kernel, by decide +kernel, by decide +kernel, by decide +kernel, by decide +kernel, by decide +kernel, by decide +kernel, by decide +kernel, by decide +kernel, by decide +kernel, by decide +kernel, ixDec (by decide +kernel)⟩
    · exact mk (Str.ofString "abaabb") (Str.ofString "aabaabb") 4 (Str.ofString "aababb") 5 3 (Str.ofString "aababb") (by decide +kernel) ⟨by decide +kernel, by decide +kernel, by decide +kernel, by decide +kernel, atDec_ok (by decide +kernel), by decide +kernel, by decide +kernel, by decide +kernel, by decide +kernel, by decide +kernel, by decide +kernel, by decide +kernel, by decide +kernel, by decide +kernel, by decide +kernel, by decide +kernel, by decide +kernel, by decide +kernel, ixDec (by decide +kernel)⟩
    · exact mk (Str.ofString "abaabb") (Str.ofString "babaabb") 6 (Str.ofString "babaab") 5 4 (Str.ofString "babaab") (by decide +kernel) ⟨by decide +kernel, by decide +kernel, by decide +kernel, by decide +kernel, atDec_ok (by decide +kernel), by decide +kernel, by decide +kernel, by decide +kernel, by decide +kernel, by decide +kernel, by decide +kernel, by decide +kernel, by decide +kernel, by decide +kernel, by decide +kernel, by decide +kernel, by decide +kernel, by decide +kernel, ixDec (by decide +kernel)⟩
    · exact mk (Str.ofString "bbaaab") (Str.ofString "abbaaab") 5 (Str.ofString "abbaab") 5 4 (Str.ofString "abbaab") (by decide +kernel) ⟨by decide +kernel, by decide +kernel, by decide +kernel, by decide +kernel, atDec_ok (by decide +kernel), by decide +kernel, by decide +kernel, by decide +kernel, by decide +kernel, by decide +kernel, by decide +kernel, by decide +kernel, by decide +kernel, by decide +kernel, by decide +kernel, by decide +kernel, by decide +kernel, by decide +kernel, ixDec (by decide +kernel)⟩
    · exact mk (Str.ofString "bbaaab") (Str.ofString "bbbaaab") 6 (Str.ofString "bbbaaa") 2 5 (Str.ofString "aaabbb") (by decide +kernel) ⟨by decide +kernel, by decide +kernel, by decide +kernel, by decide +kernel, atDec_ok (by decide +kernel), by decide +kernel, by decide +kernel, by decide +kernel, by decide +kernel, by decide +kernel, by decide +kernel, by decide +kernel, by decide +kernel, by decide +kernel, by decide +kernel, by decide +kernel, by decide +kernel, by decide +kernel, ixDec (by decide +kernel)⟩
    · exact mk (Str.ofString "aababb") (Str.ofString "aaababb") 4 (Str.ofString "aaabbb") 5 2 (Str.ofString "aaabbb") (by decide +kernel) ⟨by decide +kernel, by decide +kernel, by decide +kernel, by decide +kernel, atDec_ok (by decide +kernel), by decide +kernel, by decide +kernel, by decide +kernel, by decide +kernel, by decide +kernel, by decide +kernel, by decide +kernel, by decide +kernel, by decide +kernel, by decide +kernel, by decide +kernel, by decide +kernel, by decide +kernel, ixDec (by decide +kernel)⟩
    · exact mk (Str.ofString "aababb") (Str.ofString "baababb") 6 (Str.ofString "baabab") 5 4 (Str.ofString "baabab") (by decide +kernel) ⟨by decide +kernel, by decide +kernel, by decide +kernel, by decide +kernel, atDec_ok (by decide +kernel), by decide +kernel, by decide +kernel, by decide +kernel, by decide +kernel, by decide +kernel, by decide +kernel, by decide +kernel, by decide +kernel, by decide +kernel, by decide +kernel, by decide +kernel, by decide +kernel, by decide +kernel, ixDec (by decide +kernel)⟩
    · exact mk (Str.ofString "babaab") (Str.ofString "ababaab") 5 (Str.ofString "ababab") 5 4 (Str.ofString "ababab") (by decide +kernel) ⟨by decide +kernel, by decide +kernel, by decide +kernel, by decide +kernel, atDec_ok (by decide +kernel), by decide +kernel, by decide +kernel, by decide +kernel, by decide +kernel, by decide +kernel, by decide +kernel, by decide +kernel, by decide +kernel, by decide +kernel, by decide +kernel, by decide +kernel, by decide +kernel, by decide +kernel, ixDec (by decide +kernel)⟩
    · exact mk (Str.ofString "babaab") (Str.ofString "bbabaab") 6 (Str.ofString "bbabaa") 3 5 (Str.ofString "aababb") (by decide +kernel) ⟨by decide +kernel, by decide +kernel, by decide +kernel, by decide +kernel, atDec_ok (by decide +kernel), by decide +kernel, by decide +kernel, by decide +kernel, by decide +kernel, by decide +kernel, by decide +kernel, by decide +kernel, by decide +kernel, by decide +kernel, by decide +kernel, by decide +kernel, by decide +kernel, by decide +kernel, ixDec (by decide +kernel)⟩
    · exact mk (Str.ofString "abbaab") (Str.ofString "aabbaab") 5 (Str.ofString "aabbab") 5 4 (Str.ofString "aabbab") (by decide +kernel) ⟨by decide +kernel, by decide +kernel, by decide +kernel, by decide +kernel, atDec_ok (by decide +kernel), by decide +kernel, by decide +kernel, by decide +kernel, by decide +kernel, by decide +kernel, by decide +kernel, by decide +kernel, by decide +kernel, by decide +kernel, by decide +kernel, by decide +kernel, by decide +kernel, by decide +kernel, ixDec (by decide +kernel)⟩
    · exact mk (Str.ofString "abbaab") (Str.ofString "babbaab") 6 (Str.ofString "babbaa") 3 5 (Str.ofString "abaabb") (by decide +kernel) ⟨by decide +kernel, by decide +kernel, by decide +kernel, by decide +kernel, atDec_ok (by decide +kernel), by decide +kernel, by decide +kernel, by decide +kernel, by decide +kernel, by decide +kernel, by decide +kernel, by decide +kernel, by decide +kernel, by decide +kernel, by decide +kernel, by decide +kernel, by decide +kernel, by decide +kernel, ixDec (by decide +kernel)⟩
    · exact mk (Str.ofString "baabab") (Str.ofString "abaabab") 5 (Str.ofString "abaabb") 5 3 (Str.ofString "abaabb") (by decide +kernel) ⟨by decide +kernel, by decide +kernel, by decide +kernel, by decide +kernel, atDec_ok (by decide +kernel), by decide +kernel, by decide +kernel, by decide +kernel, by decide +kernel, by decide +kernel, by decide +kernel, by decide +kernel, by decide +kernel, by decide +kernel, by decide +kernel, by decide +kernel, by decide +kernel, by decide +kernel, ixDec (by decide +kernel)⟩
    · exact mk (Str.ofString "baabab") (Str.ofString "bbaabab") 6 (Str.ofString "bbaaba") 4 5 (Str.ofString "aabbab") (by decide +kernel) ⟨by decide +kernel, by decide +kernel, by decide +kernel, by decide +kernel, atDec_ok (by decide +kernel), by decide +kernel, by decide +kernel, by decide +kernel, by decide +kernel, by decide +kernel, by decide +kernel, by decide +kernel, by decide +kernel, by decide +kernel, by decide +kernel, by decide +kernel, by decide +kernel, by decide +kernel, ixDec (by decide +kernel)⟩
    · exact mk (Str.ofString "ababab") (Str.ofString "aababab") 5 (Str.ofString "aababb") 5 3 (Str.ofString "aababb") (by decide +kernel) ⟨by decide +kernel, by decide +kernel, by decide +kernel, by decide +kernel, atDec_ok (by decide +kernel), by decide +kernel, by decide +kernel, by decide +kernel, by decide +kernel, by decide +kernel, by decide +kernel, by decide +kernel, by decide +kernel, by decide +kernel, by decide +kernel, by decide +kernel, by decide +kernel, by decide +kernel, ixDec (by decide +kernel)⟩
    · exact mk (Str.ofString "ababab") (Str.ofString "bababab") 6 (Str.ofString "bababa") 4 5 (Str.ofString "ababab") (by decide +kernel) ⟨by decide +kernel, by decide +kernel, by decide +kernel, by decide +kernel, atDec_ok (by decide +kernel), by decide +kernel, by decide +kernel, by decide +kernel, by decide +kernel, by decide +kernel, by decide +kernel, by decide +kernel, by decide +kernel, by decide +kernel, by decide +kernel, by decide +kernel, by decide +kernel, by decide +kernel, ixDec (by decide +kernel)⟩
    · exact mk (Str.ofString "aabbab") (Str.ofString "aaabbab") 5 (Str.ofString "aaabbb") 5 2 (Str.ofString "aaabbb") (by decide +kernel) ⟨by decide +kernel, by decide +kernel, by decide +kernel, by decide +kernel, atDec_ok (by decide +kernel), by decide +kernel, by decide +kernel, by decide +kernel, by decide +kernel, by decide +kernel, by decide +kernel, by decide +kernel, by decide +kernel, by decide +kernel, by decide +kernel, by decide +kernel, by decide +kernel, by decide +kernel, ixDec (by decide +kernel)⟩
    · exact mk (Str.ofString "aabbab") (Str.ofString "baabbab") 6 (Str.ofString "baabba") 4 5 (Str.ofString "abbaab") (by decide +kernel) ⟨by decide +kernel, by decide +kernel, by decide +kernel, by decide +kernel, atDec_ok (by decide +kernel), by decide +kernel, by decide +kernel, by decide +kernel, by decide +kernel, by decide +kernel, by decide +kernel, by decide +kernel, by decide +kernel, by decide +kernel, by decide +kernel, by decide +kernel, by decide +kernel, by decide +kernel, ixDec (by decide +kernel)⟩
theorem wsT_next {j at' : Nat} (hj : j = 1 ∨ j = 2 ∨ j = 3) (ha : at' < nT j) : wsT j at' 2 = wsT j (at' + 1) 0 := by
  rcases hj with rfl | rfl | rfl <;> rfl
theorem wsT_end {j : Nat} (hj : j = 1 ∨ j = 2 ∨ j = 3) {at' : Nat} (ha : at' ≤ nT j) : ((at' : Nat) < (wsT j at' 0).length ↔ at' < nT j) := by
  rcases hj with rfl | rfl | rfl
  · have : ∀ a ≤ 1, (a < (wsT 1 a 0).length ↔ a < 1) := by decide
    exact this at' ha
  · have : ∀ a ≤ 3, (a < (wsT 2 a 0).length ↔ a < 3) := by decide
    exact this at' ha
  · have : ∀ a ≤ 10, (a < (wsT 3 a 0).length ↔ a < 10) := by decide
    exact this at' ha
def w0_ : Nat → Str
  | 1 => Str.ofString "ab"
  | 2 => Str.ofString "aabb"
  | _ => Str.ofString "aaabbb"
def spPL (K : PySem.W.Frag) : Sp := fun vs H Q _ => ∃ j : Nat, vs = [.int (j : Int)] ∧ (j = 1 ∨ j = 2 ∨ j = 3) ∧ ∀ t F S refs H', Same H H' → H' t = some (.tup [.ref F, .ref S, .int 1]) → H' F = some (.lst refs) → Ea H' isR refs (rowsT j) → H' S = some (.lst (natsV [0])) → H S = none → H F = none → Q (.ref t) H'
def PLInv (H : Hp) (j : Nat) (Wd Fd : Addr) (n : Nat) (σ' : List (Option V)) (H' : Hp) : Prop := ∃ (at' : Nat) (refs : List V) (x4 x5 x6 x7 x8 : Option V), σ' = [some (.int (j : Int)), some (.ref Wd), some (.ref Fd), some (.int (at' : Int)), x4, x5, x6, x7, x8] ∧ Same H H' ∧ H' Wd = some (.lst ((wsT j at' 0).map V.str)) ∧ H' Fd = some (.lst refs) ∧ Ea H' isR refs ((List.range at').map (rowT j)) ∧ at' ≤ nT j ∧ at' + n = nT j
section
variable {P : Program} {w : World} {K : PySem.W.Frag} {mg : Str → Option Value} {base : Heap} {C : Addr}
theorem scPL : FnScope NPL ["_law_j"] (defScope sPLast) := ⟨rfl, rfl, rfl, by decide +kernel, rfl, by decide +kernel, by decide +kernel⟩
theorem ok_plast {f g : Addr} {fd gd : FuncData} (F : Fun K "_law_p_last" "_law_p_last" sPLast f fd) (T : Txt K mg C) (D : Df K mg "_law_p_jth" sJth g gd ["_law_word", "_law_sign", "_law_j"]) : FnOk P w K mg base CX0 2 f fd ["_law_j"] (spPL K) := by
  have G : FnOk P w K mg base CX0 1 g gd ["_law_word", "_law_sign", "_law_j"] spJth := ok_jth D.F T
  refine F.ok scPL (fun vs H Q E h => ?_) (fun cdv A0 outer s H vs Q E hr h => ?_)
  · obtain ⟨j, rfl, _⟩ := h
    rfl
  · obtain ⟨j, rfl, hj, kk⟩ := h
    refine ⟨_, pss_cons (ps_par3 (i := 1) (j := 2) (l := 3) (by rfl) scPL.nd rfl rfl rfl (by decide) (by decide) (by decide) rfl rfl rfl (pa_cons (pe_lst (pa_cons (pe_op op_add_str (pe_op op_repS pe_str (pv 0)) (pe_op op_repS pe_str (pv 0))) pa_nil)) (pa_cons (pe_lst pa_nil) (pa_cons pe_int pa_nil))) (by rfl))
      (pss_cons (ps_while PassesOwn.never (pt_cmpR op_lt (pv 3) (pe_callB call_len_seq (by rfl) T.len_ PySem.boot_len (pa_cons (pv 1) pa_nil)) (nomark _))
        (pss_cons (ps_set (i := 4) scPL.nd rfl (Or.inl rfl) (pe_lst pa_nil))
        (pss_cons (ps_for PassesOwn.never rfl (pi_str pe_str) (pg_name (i := 5) scPL.nd rfl (Or.inl rfl))
          (pss_cons (ps_set (i := 6) scPL.nd rfl (Or.inl rfl) (pe_op op_add_str (pv 5) (pe_ix ix_list (pv 1) (pv 3) (fun _ _ => rfl))))
          (pss_bump (i := 7) scPL.nd rfl (Or.inl rfl) (pe_callB call_len_str (by rfl) T.len_ PySem.boot_len (pa_cons (pv 6) pa_nil)) op_sub
          (psst_cons (PST.of (ps_while PassesOwn.never (pt_cmpR op_ne (pe_ix ix_str (pv 6) (pv 7) (fun _ _ => rfl)) (pv 5) (nomark _)) (pss_one (ps_set (i := 7) scPL.nd rfl (Or.inl rfl) (pe_op op_sub (pv 7) pe_int)))))
          (psst_cons (PST.of (ps_set (i := 6) scPL.nd rfl (Or.inl rfl) (pe_op op_add_str (pe_slice sl_str (pv 6) po_none (po_some (pv 7))) (pe_slice sl_str (pv 6) (po_some (pe_op op_add (pv 7) pe_int)) po_none))))
          (psst_cons (PST.of (ps_set (i := 8) scPL.nd rfl (Or.inl rfl) (pe_cmpR op_lt (pe_call G hr rfl D.M D.F.kp D.B .nil pass0 (pa_cons (pv 6) (pa_cons pe_str (pa_cons (pv 0) pa_nil)))) (pe_call G hr rfl D.M D.F.kp D.B .nil pass0 (pa_cons (pv 6) (pa_cons pe_str (pa_cons (pv 0) pa_nil)))) (nomark _))))
          (psst_cut (pst_if (pt_val (pv 8)) (psst_one (pst_set (i := 6) scPL.nd rfl (Or.inl rfl) (pet_replT (pet_replT (pet_replC (pv 6)))))) psst_nil)
          (PSsT.of (pss_cut (ps_if (pt_cmpR op_notIn_seq (pv 6) (pv 1) rfl) (pss_one (ps_expr (pe_bm PySem.F.plainAttrs_list PySem.F.slot_list_append PySem.F.type_list_append mt_append (pv 1) (pa_cons (pv 6) pa_nil)))) pss_nil)
            (pss_one (ps_set (i := 4) scPL.nd rfl (Or.inl rfl) (pe_op op_cat (pv 4) (pe_lst (pa_cons (pe_bm PySem.F.plainAttrs_list PySem.F.slot_list_index PySem.F.type_list_index mt_index (pv 1) (pa_cons (pv 6) pa_nil)) (pa_cons (pv 8) pa_nil)))))))))))))))
        (pss_cons (ps_expr (pe_bm PySem.F.plainAttrs_list PySem.F.slot_list_append PySem.F.type_list_append mt_append (pv 2) (pa_cons (pe_tup (pa_cons (pe_ix ix_list (pv 4) pe_int (fun _ _ => rfl)) (pa_cons (pe_ix ix_list (pv 4) pe_int (fun _ _ => rfl)) (pa_cons (pe_ix ix_list (pv 4) pe_int (fun _ _ => rfl)) (pa_cons (pe_ix ix_list (pv 4) pe_int (fun _ _ => rfl)) pa_nil))))) pa_nil)))
        (pss_one (ps_set (i := 3) scPL.nd rfl (Or.inl rfl) (pe_op op_add (pv 3) pe_int)))))))
      (pss_one (ps_ret (pe_tup (pa_cons (pv 2) (pa_cons (pe_lst (pa_cons pe_int pa_nil)) (pa_cons pe_int pa_nil))))))), ?_⟩
    have wsf : ∀ ws : List Str, (ws.map V.str).all flatV = true := fun ws => by
      rw [List.all_map]
      exact List.all_eq_true.mpr fun _ _ => rfl
    have f1 : (repS (Str.ofString "a") j).length ≤ 1000 ∧ (repS (Str.ofString "b") j).length ≤ 1000 ∧ (repS (Str.ofString "a") j).length + (repS (Str.ofString "b") j).length ≤ sizeLine ∧ repS (Str.ofString "a") j ++ repS (Str.ofString "b") j = (w0_ j) := by
      rcases hj with rfl | rfl | rfl <;> decide +kernel
    have f2 : (wsT j 0 0).map V.str = [V.str (w0_ j)] := by
      rcases hj with rfl | rfl | rfl <;> rfl
    have j12 : 1 ≤ j ∧ j ≤ 3 := by omega
    have nT3 : nT j ≤ 10 := by rcases hj with rfl | rfl | rfl <;> decide
    have oa : Str.ofString "a" = sgn 97 := by decide +kernel
    have ob : Str.ofString "b" = sgn 98 := by decide +kernel
    refine ⟨_, rfl, Str.ofString "a", (j : Int), rfl, rfl, by omega, by omega, by decide +kernel, f1.1, _, rfl, Str.ofString "b", (j : Int), rfl, rfl, by omega, by omega, by decide +kernel, f1.2.1, _, _, rfl, rfl, f1.2.2.1, ?_⟩
    refine ⟨by show 1 ≤ sizeLine; decide, fun Wd hWd => ⟨Nat.zero_le _, fun Fd hFd => ⟨_, _, _, rfl, ?_⟩⟩⟩
    have eW := Same.new (o := .lst [V.str (repS (Str.ofString "a") j ++ repS (Str.ofString "b") j)]) hWd
    have hFd : (upd H Wd (.lst [V.str (repS (Str.ofString "a") j ++ repS (Str.ofString "b") j)])) Fd = none := hFd
    have eF := Same.new (o := .lst []) hFd
    have nW : H Wd = none := hWd
    have nF : H Fd = none := L2.Same.none eW hFd
    have FW : Fd ≠ Wd := by
      rintro rfl
      rw [upd_same] at hFd
      cases hFd
    refine ⟨PLInv H j Wd Fd, ⟨nT j, 0, [], none, none, none, none, none, rfl, eW.trans eF, ?_, upd_same, Ea.nil, Nat.zero_le _, Nat.zero_add _⟩, ?_⟩
    · rw [f2, ← f1.2.2.2]
      exact eF _ _ upd_same
    rintro n0 _ H3 ⟨at', refs, x4, x5, x6, x7, x8, rfl, s3, hW, hF, hE, hle, hn⟩
    refine ⟨_, rfl, _, rfl, Wd, _, rfl, .inl (SqL.of hW), _, _, rfl, rfl, _, rfl, ifD_2 (fun hlt => ?_) (fun hge => ?_)⟩
    · have hlt : at' < nT j := (wsT_end hj hle).mp (by rw [List.length_map] at hlt; omega)
      refine ⟨fun σ' H' => ∃ m', m' < n0 ∧ PLInv H j Wd Fd m' σ' H', fun _ _ h => h, ?_⟩
      refine ⟨Nat.zero_le _, fun R0 hR0 => ?_⟩
      have eR := Same.new (o := .lst []) hR0
      refine ⟨Str.ofString "ab", rfl, ?_⟩
      refine for_it walk_str (fun i σ' H' => ∃ (Rd : Addr) (x5 x6 x7 x8 : Option V), σ' = [some (.int (j : Int)), some (.ref Wd), some (.ref Fd), some (.int (at' : Int)), some (.ref Rd), x5, x6, x7, x8] ∧ Same H H' ∧ H' Wd = some (.lst ((wsT j at' i).map V.str)) ∧ H' Fd = some (.lst refs) ∧ Ea H' isR refs ((List.range at').map (rowT j)) ∧ H' Rd = some (.lst (halfV (rowT j at') i)) ∧ Rd ≠ Wd ∧ Rd ≠ Fd) ?_ (fun _ _ _ _ _ => True.intro) ?_ ?_
      · exact ⟨R0, _, _, _, _, rfl, s3.trans eR, eR _ _ hW, eR _ _ hF, hE.imp fun c r q => eR _ _ q, upd_same, (ne_of_none hW hR0).symm, (ne_of_none hF hR0).symm⟩
      · rintro i x _ _ H5 hi ⟨Rd, x5, x6, x7, x8, rfl, s5, hW5, hF5, hE5, hR5, RW, RF⟩ ⟨rfl, c, hc, rfl⟩
        have hi2 : i < 2 := hi
        obtain rfl : c = sgL i := by
          rcases i with _ | _ | i
          · have : (Str.ofString "ab").cps[0]? = some 97 := by decide +kernel
            rw [this] at hc
            injection hc with hc
            exact hc.symm
          · have : (Str.ofString "ab").cps[1]? = some 98 := by decide +kernel
            rw [this] at hc
            injection hc with hc
            exact hc.symm
          · omega
        obtain ⟨z, z1, cut, z2, pb, pa, z3, hz, ps⟩ := pstep hj hlt hi2
        have hl1 : z1.length ≤ sizeLine := Nat.le_trans ps.l1.2 (by decide)
        refine ⟨_, rfl, _, rfl, _, rfl, Wd, _, (at' : Int), .str z, rfl, rfl, SqL.of hW5, atI_nat (by rw [List.getElem?_map, hz]; rfl), sgn (sgL i), z, rfl, rfl, ?_, ?_⟩
        · exact Nat.le_trans (Nat.add_le_add_left ps.lz 1) (by decide)
        rw [ps.e1]
        refine ⟨_, rfl, z1, rfl, hl1, _, _, rfl, rfl, ?_⟩
        have hl11 := ps.l1.1
        have ez : ((z1.length : Nat) : Int) - 1 = ((z1.length - 1 : Nat) : Int) := by omega
        refine ⟨fun n σ' H' => ∃ c, σ' = [some (.int (j : Int)), some (.ref Wd), some (.ref Fd), some (.int (at' : Int)), some (.ref Rd), some (.str (sgn (sgL i))), some (.str z1), some (.int ((c : Nat) : Int)), x8] ∧ H' = H5 ∧ cut ≤ c ∧ c < z1.length ∧ n = c, ⟨z1.length - 1, z1.length - 1, by rw [← ez]; rfl, rfl, by have := ps.cl; omega, by omega, rfl⟩, ?_⟩
        rintro n1 _ H6 ⟨c, rfl, hH6, h1, h2, rfl⟩
        have hH6 := hH6.symm
        subst hH6
        obtain ⟨y, hy, hye⟩ := ps.at_ _ h2 h1
        refine ⟨_, rfl, _, rfl, z1, _, y, rfl, rfl, hl1, atI_nat hy, _, rfl, rfl, _, rfl, ?_⟩
        rw [sgn_eq, hye]
        by_cases hcc : n1 = cut
        · rw [decide_eq_true hcc]
          subst hcc
          refine iteF ?_
          have hl2 : z2.length ≤ sizeLine := Nat.le_trans ps.l2 (by decide)
          refine ⟨_, rfl, _, rfl, _, rfl, z1, rfl, hl1, _, rfl, _, rfl, _, _, rfl, rfl, ((n1 + 1 : Nat) : Int), rfl, z1, rfl, hl1, _, _, rfl, rfl, Nat.le_trans (Nat.add_le_add ps.l2a.1 ps.l2a.2) (by decide), ?_⟩
          rw [ps.e2]
          refine ⟨_, rfl, _, rfl, z2, 98, j, pb, by rw [ob]; rfl, j12.1, j12.2, Nat.le_trans ps.l2 (by decide), ps.hb, fun H6 s6 => ?_⟩
          refine ⟨_, rfl, _, rfl, z2, 97, j, pa, by rw [oa]; rfl, j12.1, j12.2, Nat.le_trans ps.l2 (by decide), ps.ha, fun H7 s7 => ⟨_, _, rfl, rfl, ?_⟩⟩
          have s67 := s6.trans s7
          have hW7 := s67 _ _ hW5
          have hF7 := s67 _ _ hF5
          have hE7 := hE5.imp fun c r q => (show isR H7 c r from s67 _ _ q)
          have hR7 := s67 _ _ hR5
          have sH7 := s5.trans s67
          have etu : decide ((pb : Int) < (pa : Int)) = tuT j at' i := by
            rw [← ps.ht]
            exact decide_eq_decide.mpr Int.ofNat_lt
          refine ⟨fun σ' H' => σ' = [some (.int (j : Int)), some (.ref Wd), some (.ref Fd), some (.int (at' : Int)), some (.ref Rd), some (.str (sgn (sgL i))), some (.str z3), some (.int ((n1 : Nat) : Int)), some (.bl (tuT j at' i))] ∧ H' = H7, ?_, ?_⟩
          · refine ⟨_, rfl, decide ((pb : Int) < (pa : Int)), rfl, ?_⟩
            rw [etu]
            have e3 := ps.e3
            cases htu : tuT j at' i with
            | true =>
              rw [htu, if_pos rfl] at e3
              refine iteT ?_
              refine ⟨_, rfl, z2, rfl, ps.r1, _, rfl, ps.r2, _, rfl, ps.r3, ?_, rfl⟩
              rw [← e3, ← htu, ← etu]
              rfl
            | false =>
              rw [htu, if_neg (by decide)] at e3
              refine iteF ⟨?_, rfl⟩
              rw [← e3, ← htu, ← etu]
              rfl
          rintro _ H7' ⟨rfl, h7⟩
          have h7 := h7.symm
          subst h7
          refine ⟨fun σ' H' => σ' = [some (.int (j : Int)), some (.ref Wd), some (.ref Fd), some (.int (at' : Int)), some (.ref Rd), some (.str (sgn (sgL i))), some (.str z3), some (.int ((n1 : Nat) : Int)), some (.bl (tuT j at' i))] ∧ Same H H' ∧ H' Wd = some (.lst ((wsT j at' (i + 1)).map V.str)) ∧ H' Fd = some (.lst refs) ∧ Ea H' isR refs ((List.range at').map (rowT j)) ∧ H' Rd = some (.lst (halfV (rowT j at') i)), ?_, ?_⟩
          · refine ⟨_, rfl, _, rfl, Wd, _, rfl, .inl (SqL.of hW7), rfl, wsf _, _, rfl, ?_⟩
            have e4 := ps.e4
            show ite ((!inV (V.str z3) ((wsT j at' i).map V.str)) = true) _ _
            cases hin : inV (V.str z3) ((wsT j at' i).map V.str) with
            | true =>
              rw [hin, if_pos rfl] at e4
              refine iteF ⟨rfl, sH7, ?_, hF7, hE7, hR7⟩
              rw [← e4]
              exact hW7
            | false =>
              rw [hin, if_neg (by decide)] at e4
              refine iteT ?_
              refine ⟨_, rfl, .inl ⟨rfl, _, SqL.of hW7⟩, _, rfl, Wd, _, _, rfl, rfl, hW7, ?_, rfl, fun b o q => ?_, ?_, ?_, ?_, ?_⟩
              · rw [List.length_map]
                exact Nat.lt_of_le_of_lt ps.wl (by decide)
              · rw [upd_ne (ne_of_none q nW)]
                exact sH7 _ _ q
              · rw [upd_same, ← e4, List.map_append]
                rfl
              · rw [upd_ne FW]
                exact hF7
              · exact hE7.imp fun c r q => (show (upd H7 Wd _) c = some (.tup (rv (rz r))) by
                  rw [upd_ne (ne_of (show H7 c = some (.tup (rv (rz r))) from q) hW7 (by intro z; cases z))]
                  exact q)
              · rw [upd_ne RW]
                exact hR7
          rintro _ H8 ⟨rfl, sH8, hW8, hF8, hE8, hR8⟩
          refine ⟨_, rfl, _, rfl, .inl ⟨rfl, _, SqL.of hW8⟩, _, rfl, Wd, _, .str z3, ixT j at' i, .str z3, rfl, rfl, SqL.of hW8, rfl, wsf _, ?_, ?_, ?_, ?_⟩
          · rw [List.getElem?_map, ps.ixz]
            rfl
          · simp [eqV]
          · intro m' z' hm' hz'
            rw [List.getElem?_map, Option.map_eq_some_iff] at hz'
            obtain ⟨w', hw', rfl⟩ := hz'
            exact ps.ixn m' w' hm' hw'
          refine ⟨_, rfl, by show 2 ≤ sizeLine; decide, fun l1 hl1' => ?_⟩
          have e9 := Same.new (o := .lst [V.int ((ixT j at' i : Nat) : Int), .bl (tuT j at' i)]) hl1'
          refine ⟨Rd, l1, _, _, rfl, rfl, e9 _ _ hR8, upd_same, ?_, fun Rn hRn => ?_⟩
          · have : (halfV (rowT j at') i).length ≤ 4 := by
              rcases i with _ | _ | i
              · show 0 ≤ 4; decide
              · show 2 ≤ 4; decide
              · show 4 ≤ 4; decide
            exact Nat.le_trans (Nat.add_le_add_right this 2) (by decide)
          have e10 := Same.new (o := .lst (halfV (rowT j at') i ++ [V.int ((ixT j at' i : Nat) : Int), .bl (tuT j at' i)])) hRn
          refine ⟨Rn, _, _, _, _, rfl, (sH8.trans e9).trans e10, e10 _ _ (e9 _ _ hW8), e10 _ _ (e9 _ _ hF8), hE8.imp fun c r q => e10 _ _ (e9 _ _ q), ?_, (ne_of_none (e9 _ _ hW8) hRn).symm, (ne_of_none (e9 _ _ hF8) hRn).symm⟩
          rw [upd_same]
          rcases i with _ | _ | i
          · rfl
          · rfl
          · omega
        · rw [decide_eq_false hcc]
          refine iteT ?_
          refine ⟨fun σ' H' => ∃ m', m' < n1 ∧ ∃ c, σ' = [some (.int (j : Int)), some (.ref Wd), some (.ref Fd), some (.int (at' : Int)), some (.ref Rd), some (.str (sgn (sgL i))), some (.str z1), some (.int ((c : Nat) : Int)), x8] ∧ H' = H5 ∧ cut ≤ c ∧ c < z1.length ∧ m' = c, fun _ _ h => h, ?_⟩
          refine ⟨_, rfl, _, _, rfl, rfl, n1 - 1, by omega, n1 - 1, ?_, rfl, by omega, by omega, rfl⟩
          have en1 : ((n1 : Nat) : Int) - 1 = ((n1 - 1 : Nat) : Int) := by omega
          rw [← en1]
          rfl
      · rintro _ H5 ⟨Rd, x5, x6, x7, x8, rfl, s5, hW5, hF5, hE5, hR5, RW, RF⟩
        have hR5 : H5 Rd = some (.lst [.int ((rowT j at').1 : Int), .bl (rowT j at').2.1, .int ((rowT j at').2.2.1 : Int), .bl (rowT j at').2.2.2]) := hR5
        have hW5 : H5 Wd = some (.lst ((wsT j at' 2).map V.str)) := hW5
        have e2 : wsT j at' 2 = wsT j (at' + 1) 0 := wsT_next hj hlt
        rw [e2] at hW5
        have sR := SqL.of (K := K) hR5
        refine ⟨_, rfl, .inl ⟨rfl, _, SqL.of hF5⟩, _, rfl, Rd, _, 0, _, rfl, rfl, sR, rfl, _, rfl, Rd, _, 1, _, rfl, rfl, sR, rfl, _, rfl, Rd, _, 2, _, rfl, rfl, sR, rfl, _, rfl, Rd, _, 3, _, rfl, rfl, sR, rfl, by show 4 ≤ sizeLine; decide, fun t0 ht0 => ?_⟩
        have e6 := Same.new (o := .tup (rv (rz (rowT j at')))) ht0
        have g6 : (upd H5 t0 (.tup (rv (rz (rowT j at'))))) t0 = some (.tup (rv (rz (rowT j at')))) := upd_same
        have hF6 := e6 _ _ hF5
        have lr : refs.length = at' := by rw [hE5.1, List.length_map, List.length_range]
        refine ⟨Fd, refs, _, rfl, rfl, hF6, Nat.lt_of_le_of_lt (by omega : refs.length ≤ 10) (by decide), ?_⟩
        refine ⟨_, rfl, _, _, rfl, rfl, n0 - 1, by omega, at' + 1, refs ++ [.ref t0], _, _, _, _, _, rfl, fun b o q => ?_, ?_, upd_same, ?_, by omega, by omega⟩
        · rw [upd_ne (ne_of_none q nF)]
          exact e6 _ _ (s5 _ _ q)
        · rw [upd_ne FW.symm]
          exact e6 _ _ hW5
        · have mv : ∀ c r, isR (upd H5 t0 (.tup (rv (rz (rowT j at'))))) c r → isR (upd (upd H5 t0 (.tup (rv (rz (rowT j at'))))) Fd (.lst (refs ++ [.ref t0]))) c r := fun c r q => (show (upd (upd H5 t0 (.tup (rv (rz (rowT j at'))))) Fd _) c = some (.tup (rv (rz r))) by
            rw [upd_ne (ne_of (show (upd H5 t0 (.tup (rv (rz (rowT j at'))))) c = some (.tup (rv (rz r))) from q) hF6 (by intro z; cases z))]
            exact q)
          rw [List.range_succ, List.map_append]
          exact Ea.push (hE5.imp fun c r q => mv c r (e6 _ _ q)) (mv t0 _ g6)
    · have hge : ¬ at' < nT j := fun z => hge (by rw [List.length_map]; exact Int.ofNat_lt.mpr ((wsT_end hj hle).mpr z))
      have hat : at' = nT j := by omega
      subst hat
      refine ⟨_, rfl, by show 1 ≤ sizeLine; decide, fun S0 hS0 => ⟨by show 3 ≤ sizeLine; decide, fun t0 ht0 => ?_⟩⟩
      have e1 := Same.new (o := .lst (natsV [0])) hS0
      have e2 := Same.new (o := .tup [V.ref Fd, .ref S0, .int 1]) ht0
      rw [rowsT_eq hj] at hE
      exact kk t0 Fd S0 refs _ ((s3.trans e1).trans e2) upd_same (e2 _ _ (e1 _ _ hF)) (hE.imp fun c r q => e2 _ _ (e1 _ _ q)) (e2 _ _ upd_same) (L2.Same.none s3 hS0) nF
end
end PA

set_option maxHeartbeats 8000000
namespace PA
open PySem L2 RZ
open C8 (pss_cut tCut)
open PwM (cn pst prow dec pw OkQ ps sq lcn lrow ldec lpw lps)
abbrev sPP : Stmt := top 52
abbrev NPP : List Str := ["_law_table", "_law_k", "_law_rows", "_law_starts", "_law_marks", "_law_size", "_law_found", "_law_ahead", "_law_behind", "_law_row", "_law_state", "_law_up", "_law_on", "_law_first", "_law_second", "_law_low", "_law_high", "_law_one", "_law_some", "_law_begins", "_law_mark", "_law_other", "_law_start_here", "_law_at"]
/-- a table whose lists are new -/
def TabF (H H' : Hp) (t : Addr) (rn : List Rn) (st : List Nat) (k : Int) : Prop := ∃ R S refs, H R = none ∧ H S = none ∧ H' t = some (.tup [.ref R, .ref S, .int k]) ∧ H' R = some (.lst refs) ∧ Each H' isT refs (rn.map rz) ∧ H' S = some (.lst ((stZ st).map V.int))
theorem TabF.at {H H' : Hp} {t : Addr} {rn : List Rn} {st : List Nat} {k : Int} (h : TabF H H' t rn st k) : TabAt H' t rn st k := by
  obtain ⟨R, S, refs, _, _, h⟩ := h
  exact ⟨R, S, refs, h⟩
def spPP : Sp := fun vs H Q _ => ∃ (t : Addr) (A : List Rn) (st : List Nat) (m k : Nat), vs = [.ref t, .int (k : Int)] ∧ TabAt H t A st (m : Int) ∧ LF.TOk A ∧ (∀ x ∈ st, x < A.length) ∧ st.length = m * m ∧ A.length ≤ 48 ∧ 1 ≤ m ∧ 1 ≤ k ∧ m * k ≤ 4 ∧
  ∀ t' H', Same H H' → TabF H H' t' (lpw A k) (lps st m k A.length) ((m * k : Nat) : Int) → Q (.ref t') H'
abbrev sg (t R S Fo c : Addr) (k m n a b : Nat) (x10 x11 x12 x13 x14 x15 x16 x17 : Option V) : List (Option V) :=
  [some (.ref t), some (.int (k : Int)), some (.ref R), some (.ref S), some (.int (m : Int)), some (.int (n : Int)), some (.ref Fo), some (.int (a : Int)), some (.int (b : Int)), some (.ref c), x10, x11, x12, x13, x14, x15, x16, x17, none, none, none, none, none, none]
def LAcc (H1 : Hp) (D : Addr) (A : List Rn) (k c : Nat) (H' : Hp) : Prop := Same H1 H' ∧ ∃ acc, H' D = some (.lst acc) ∧ Each H' isT acc (((List.range c).map fun i => lrow A k (ldec A.length k i)).map rz)
theorem LAcc.at {H1 H' : Hp} {D : Addr} {A : List Rn} {k c d : Nat} (h : LAcc H1 D A k c H') (e : c = d) : LAcc H1 D A k d H' := e ▸ h
theorem LAcc.same {H1 H' H2 : Hp} {D : Addr} {A : List Rn} {k c : Nat} (h : LAcc H1 D A k c H') (s : Same H' H2) : LAcc H1 D A k c H2 := by
  obtain ⟨s1, acc, h1, h2⟩ := h
  exact ⟨s1.trans s, acc, s _ _ h1, h2.sameT s⟩
abbrev isPr2 (k : Nat) : Hp → Addr → Nat → Prop := TupOf fun i => [V.int ((i / k : Nat) : Int), V.int ((i % k : Nat) : Int)]
theorem up_eq {a k : Nat} (ha : a < k) : ((a : Int) + 1) % (k : Int) = ((if a + 1 < k then a + 1 else 0 : Nat) : Int) := by
  have e : ((a : Int) + 1) % (k : Int) = (((a + 1) % k : Nat) : Int) := by simp
  rw [e]
  split
  · rw [Nat.mod_eq_of_lt (by assumption)]
  · rw [show a + 1 = k by omega, Nat.mod_self]
section
variable {P : Program} {w : World} {K : PySem.W.Frag} {mg : Str → Option Value} {base : Heap} {C : Addr}
theorem scPP : FnScope NPP ["_law_table", "_law_k"] (defScope sPP) := ⟨rfl, rfl, rfl, by decide +kernel, rfl, by decide +kernel, by decide +kernel⟩
theorem ok_pp {f : Addr} {fd : FuncData} (F : Fun K "_law_p_power" "_law_p_power" sPP f fd) (T : Txt K mg C) : FnOk P w K mg base CX0 1 f fd ["_law_table", "_law_k"] spPP := by
  refine F.ok scPP (fun vs H Q E h => ?_) (fun cdv A0 outer s0 H vs Q E hr h => ?_)
  · obtain ⟨t, _, _, _, k, rfl, _⟩ := h
    rfl
  · obtain ⟨t, A, st, m, k, rfl, hT, oA, hs, hl, lA, m1, k1, mk4, kk⟩ := h
    refine ⟨_, pss_cons (ps_asg (pv 0) (pg_tup rfl (pgs_cons (pg_name (i := 2) scPP.nd rfl (Or.inl rfl)) (pgs_cons (pg_name (i := 3) scPP.nd rfl (Or.inl rfl)) (pgs_cons (pg_name (i := 4) scPP.nd rfl (Or.inl rfl)) pgs_nil)))))
      (pss_cons (ps_par (i := 5) (j := 6) (by rfl) scPP.nd rfl rfl (by decide) rfl rfl (pa_cons (pe_callB call_len_seq (by rfl) T.len_ PySem.boot_len (pa_cons (pv 2) pa_nil)) (pa_cons (pe_lst pa_nil) pa_nil)) (by rfl))
      (pss_cons (ps_for PassesOwn.never rfl (pi_range1 (by rfl) T.range_ (pa_cons (pv 1) pa_nil)) (pg_name (i := 7) scPP.nd rfl (Or.inl rfl))
        (pss_one (ps_for PassesOwn.never rfl (pi_range1 (by rfl) T.range_ (pa_cons (pv 1) pa_nil)) (pg_name (i := 8) scPP.nd rfl (Or.inl rfl))
          (pss_one (ps_for PassesOwn.never rfl (pi_list (pv 2)) (pg_name (i := 9) scPP.nd rfl (Or.inl rfl))
            (pss_cut (ps_set (i := 10) scPP.nd rfl (Or.inl rfl) (pe_op op_sub (pe_callB call_len_seq (by rfl) T.len_ PySem.boot_len (pa_cons (pv 6) pa_nil)) (pe_op op_mul (pe_op op_add (pe_op op_mul (pv 7) (pv 1)) (pv 8)) (pv 5))))
            (pss_cut (ps_par (i := 11) (j := 12) (by rfl) scPP.nd rfl rfl (by decide) rfl rfl (pa_cons (pe_op op_mod (pe_callTy call_int1 (by rfl) T.int_ boot_int' (pa_cons (pe_op op_add (pv 7) pe_int) pa_nil)) (pv 1)) (pa_cons (pe_op op_mod (pe_callTy call_int1 (by rfl) T.int_ boot_int' (pa_cons (pe_op op_add (pv 8) pe_int) pa_nil)) (pv 1)) pa_nil)) (by rfl))
            (pss_cut (ps_set (i := 13) scPP.nd rfl (Or.inl rfl) (pe_ifExp (pt_cmpR op_eq (pv 11) pe_int (nomark _)) (pe_tup (pa_cons (pe_ix ix_tup (pv 9) pe_int (fun _ _ => rfl)) (pa_cons (pe_ix ix_tup (pv 9) pe_int (fun _ _ => rfl)) pa_nil))) (pe_tup (pa_cons (pv 10) (pa_cons pe_bl pa_nil)))))
            (pss_cut (ps_set (i := 14) scPP.nd rfl (Or.inl rfl) (pe_ifExp (pt_cmpR op_eq (pv 12) pe_int (nomark _)) (pe_tup (pa_cons (pe_ix ix_tup (pv 9) pe_int (fun _ _ => rfl)) (pa_cons (pe_ix ix_tup (pv 9) pe_int (fun _ _ => rfl)) pa_nil))) (pe_tup (pa_cons (pv 10) (pa_cons pe_bl pa_nil)))))
            (pss_cut (ps_set (i := 15) scPP.nd rfl (Or.inl rfl) (pe_ifExp (pt_val (pe_ix ix_tup (pv 13) pe_int (fun _ _ => rfl))) (pe_op op_add (pe_op op_mul (pv 8) (pv 1)) (pv 11)) (pe_op op_add (pe_op op_mul (pv 11) (pv 1)) (pv 8))))
            (pss_cut (ps_set (i := 16) scPP.nd rfl (Or.inl rfl) (pe_ifExp (pt_val (pe_ix ix_tup (pv 14) pe_int (fun _ _ => rfl))) (pe_op op_add (pe_op op_mul (pv 12) (pv 1)) (pv 7)) (pe_op op_add (pe_op op_mul (pv 7) (pv 1)) (pv 12))))
            (pss_cons (ps_set (i := 17) scPP.nd rfl (Or.inl rfl) (pe_tup (pa_cons (pe_op op_add (pe_op op_mul (pv 15) (pv 5)) (pe_ix ix_tup (pv 13) pe_int (fun _ _ => rfl))) (pa_cons (pe_ix ix_tup (pv 13) pe_int (fun _ _ => rfl)) pa_nil))))
            (pss_one (ps_expr (pe_bm PySem.F.plainAttrs_list PySem.F.slot_list_append PySem.F.type_list_append mt_append (pv 6) (pa_cons (pe_op op_catA (pv 17) (pe_tup (pa_cons (pe_op op_add (pe_op op_mul (pv 16) (pv 5)) (pe_ix ix_tup (pv 14) pe_int (fun _ _ => rfl))) (pa_cons (pe_ix ix_tup (pv 14) pe_int (fun _ _ => rfl)) pa_nil)))) pa_nil))))))))))))))))
      (pss_cons (ps_par (i := 18) (j := 19) (by rfl) scPP.nd rfl rfl (by decide) rfl rfl (pa_cons (pe_lc (own := [("_law_at", 23)]) (g := gName 23) (tt := tYes) (by rfl) scPP.nd (pi_range1 (by rfl) T.range_ (pa_cons (pe_op op_mul (pv 4) (pv 1)) pa_nil)) (blkOk_by (N := NPP) (sc := defScope sPP) (by decide +kernel))
          (fun _ _ _ _ _ => pg_name (i := 23) scPP.nd rfl (Or.inl rfl)) (fun _ _ _ _ _ => pts_nil)
          (fun _ _ _ _ _ => pe_tup (pa_cons (pe_op op_fdiv (pv 23) (pv 1)) (pa_cons (pe_op op_sub (pv 23) (pe_op op_mul (pe_op op_fdiv (pv 23) (pv 1)) (pv 1))) pa_nil)))) (pa_cons (pe_lst pa_nil) pa_nil)) (by rfl))
      (pss_cons (ps_for PassesOwn.never rfl (pi_list (pv 18)) (pg_tup rfl (pgs_cons (pg_name (i := 20) scPP.nd rfl (Or.inl rfl)) (pgs_cons (pg_name (i := 7) scPP.nd rfl (Or.inl rfl)) pgs_nil)))
        (pss_one (ps_for PassesOwn.never rfl (pi_list (pv 18)) (pg_tup rfl (pgs_cons (pg_name (i := 21) scPP.nd rfl (Or.inl rfl)) (pgs_cons (pg_name (i := 8) scPP.nd rfl (Or.inl rfl)) pgs_nil)))
          (pss_cons (ps_set (i := 22) scPP.nd rfl (Or.inl rfl) (pe_ix ix_list (pv 3) (pe_op op_add (pe_op op_mul (pv 20) (pv 4)) (pv 21)) (fun _ _ => rfl)))
          (pss_one (ps_expr (pe_bm PySem.F.plainAttrs_list PySem.F.slot_list_append PySem.F.type_list_append mt_append (pv 19) (pa_cons (pe_op op_add (pe_op op_mul (pe_op op_add (pe_op op_mul (pv 7) (pv 1)) (pv 8)) (pv 5)) (pv 22)) pa_nil))))))))
      (pss_one (ps_ret (pe_tup (pa_cons (pv 6) (pa_cons (pv 19) (pa_cons (pe_op op_mul (pv 4) (pv 1)) pa_nil)))))))))), ?_⟩
    obtain ⟨R, S, refs, ht, hR, hE, hS⟩ := id hT
    have hlr : refs.length = A.length := by have := hE.1; rwa [List.length_map] at this
    have hk4 : k ≤ 4 := Nat.le_trans (by have := Nat.mul_le_mul_right k m1; omega) mk4
    have hm4 : m ≤ 4 := Nat.le_trans (by have := Nat.mul_le_mul_left m k1; omega) mk4
    refine ⟨_, rfl, t, _, rfl, SqT.of ht, rfl, _, _, rfl, _, _, rfl, _, _, rfl, rfl, ?_⟩
    refine ⟨_, rfl, R, _, rfl, .inl (SqL.of hR), ?_⟩
    rw [hlr]
    refine ⟨Nat.zero_le _, fun Fo hFo => ⟨_, _, rfl, ?_⟩⟩
    have eF := Same.new (o := .lst []) hFo
    generalize hn : A.length = n
    have hkk : k * k ≤ 4 * 4 := Nat.mul_le_mul hk4 hk4
    refine ⟨_, rfl, (k : Int), rfl, by omega, by omega, ?_⟩
    refine for_range (n := ((k : Int)).toNat) (fun i σ' H' => ∃ x7 x8 x9 x10 x11 x12 x13 x14 x15 x16 x17, σ' = [some (.ref t), some (.int (k : Int)), some (.ref R), some (.ref S), some (.int (m : Int)), some (.int (n : Int)), some (.ref Fo), x7, x8, x9, x10, x11, x12, x13, x14, x15, x16, x17, none, none, none, none, none, none] ∧ LAcc H Fo A k (i * k * n) H') ?_ ?_ ?_
    · exact ⟨_, _, _, _, _, _, _, _, _, _, _, rfl, LAcc.at (c := 0) ⟨eF, [], upd_same, Each.nil⟩ (by rw [Nat.zero_mul, Nat.zero_mul])⟩
    · rintro a _ H1 ha ⟨x7, x8, x9, x10, x11, x12, x13, x14, x15, x16, x17, rfl, L1⟩
      have ha : a < k := ha
      rw [Int.zero_add]
      refine ⟨_, rfl, (k : Int), rfl, by omega, by omega, ?_⟩
      refine for_range (n := ((k : Int)).toNat) (fun j σ' H' => ∃ x8 x9 x10 x11 x12 x13 x14 x15 x16 x17, σ' = [some (.ref t), some (.int (k : Int)), some (.ref R), some (.ref S), some (.int (m : Int)), some (.int (n : Int)), some (.ref Fo), some (.int (a : Int)), x8, x9, x10, x11, x12, x13, x14, x15, x16, x17, none, none, none, none, none, none] ∧ LAcc H Fo A k ((a * k + j) * n) H') ?_ ?_ ?_
      · exact ⟨_, _, _, _, _, _, _, _, _, _, rfl, L1.at (by rw [Nat.add_zero])⟩
      · rintro b _ H2 hb ⟨x8, x9, x10, x11, x12, x13, x14, x15, x16, x17, rfl, L2_⟩
        have hb : b < k := hb
        rw [Int.zero_add]
        have hR2 := L2_.1 _ _ hR
        refine ⟨_, rfl, R, rfl, ⟨_, SqL.of hR2⟩, ?_⟩
        refine for_list (xs := refs) (fun i σ' H' => ∃ x9 x10 x11 x12 x13 x14 x15 x16 x17, σ' = [some (.ref t), some (.int (k : Int)), some (.ref R), some (.ref S), some (.int (m : Int)), some (.int (n : Int)), some (.ref Fo), some (.int (a : Int)), some (.int (b : Int)), x9, x10, x11, x12, x13, x14, x15, x16, x17, none, none, none, none, none, none] ∧ LAcc H Fo A k ((a * k + b) * n + i) H') ?_ ?_ ?_ ?_
        · exact ⟨_, _, _, _, _, _, _, _, _, rfl, L2_⟩
        · rintro i σ' H' _ ⟨_, _, _, _, _, _, _, _, _, _, s', _⟩
          exact SqL.of (s' _ _ hR)
        · rintro s x _ H3 hx ⟨x9, x10, x11, x12, x13, x14, x15, x16, x17, rfl, L3⟩
          have hs' : s < A.length := by rw [← hlr]; exact (List.getElem?_eq_some_iff.mp hx).1
          obtain ⟨c, rfl, hc0⟩ := hE.2 s x (rz (LP.rw_ A s)) hx (by rw [List.getElem?_map, LP.row_of hs']; rfl)
          have hc : isT H3 c (rz (LP.rw_ A s)) := L3.1 _ _ hc0
          obtain ⟨s3, acc, hd3, he3⟩ := id L3
          have hacc : acc.length = (a * k + b) * n + s := by
            have := he3.1
            rwa [List.length_map, List.length_map, List.length_range] at this
          have hab := PwM.idx_lt ha hb
          have okq : OkQ A k (s, a, b) := ⟨hs', ha, hb⟩
          have abn : (a * k + b) * n ≤ 16 * 48 := Nat.mul_le_mul (by omega) (by omega)
          have r0 : (LP.rw_ A s).1 < A.length := LP.nx_ok oA hs' false
          have r1 : (LP.rw_ A s).2.2.1 < A.length := LP.nx_ok oA hs' true
          generalize hrw : LP.rw_ A s = r at hc r0 r1
          have m0 : 0 ≤ (a : Int) * (k : Int) := Int.mul_nonneg (by omega) (by omega)
          have m0' : (a : Int) * (k : Int) = ((a * k : Nat) : Int) := (Int.natCast_mul a k).symm
          have ak16 : a * k ≤ 4 * 4 := Nat.mul_le_mul (by omega) hk4
          have bk16 : b * k ≤ 4 * 4 := Nat.mul_le_mul (by omega) hk4
          -- the state
          refine ⟨fun σ' H' => σ' = sg t R S Fo c k m n a b (some (.int (s : Int))) x11 x12 x13 x14 x15 x16 x17 ∧ H3 = H', ?_, ?_⟩
          · refine ⟨_, rfl, Fo, _, rfl, .inl (SqL.of hd3), _, rfl, _, rfl, _, _, rfl, rfl, .inl ⟨by omega, by omega⟩, _, rfl, _, _, rfl, rfl, _, rfl, _, _, rfl, rfl, .inr ⟨by omega, by omega⟩, _, _, rfl, rfl, ?_, rfl⟩
            have e : ((acc.length : Nat) : Int) - ((a : Int) * (k : Int) + (b : Int)) * (n : Int) = (s : Int) := by
              have e1 : ((a : Int) * (k : Int) + (b : Int)) * (n : Int) = (((a * k + b) * n : Nat) : Int) := by simp
              rw [e1, hacc]
              omega
            rw [← e]
            rfl
          rintro _ H3' ⟨rfl, rfl⟩
          refine ⟨fun σ' H' => σ' = sg t R S Fo c k m n a b (some (.int (s : Int))) (some (.int ((if a + 1 < k then a + 1 else 0 : Nat) : Int))) (some (.int ((if b + 1 < k then b + 1 else 0 : Nat) : Int))) x13 x14 x15 x16 x17 ∧ H3 = H', ?_, ?_⟩
          · refine ⟨_, rfl, _, _, rfl, rfl, .inl ⟨_, rfl, _, rfl, _, _, rfl, rfl, by omega, _, rfl, _, _, rfl, rfl, .inl ⟨_, rfl, _, rfl, _, _, rfl, rfl, by omega, _, _, rfl, ?_, rfl⟩⟩⟩
            rw [← up_eq ha, ← up_eq hb]
            rfl
          rintro _ H3' ⟨rfl, rfl⟩
          refine ⟨fun σ' H' => ∃ t1, σ' = sg t R S Fo c k m n a b (some (.int (s : Int))) (some (.int ((if a + 1 < k then a + 1 else 0 : Nat) : Int))) (some (.int ((if b + 1 < k then b + 1 else 0 : Nat) : Int))) (some (.ref t1)) x14 x15 x16 x17 ∧ Same H3 H' ∧ H' t1 = some (.tup [.int (((pst A k (s, a, b) false).2.1 : Nat) : Int), .bl (pst A k (s, a, b) false).1]), ?_, ?_⟩
          · refine ⟨_, rfl, rfl, _, rfl, ?_⟩
            by_cases g : a + 1 < k
            · have e : pst A k (s, a, b) false = (false, s, a + 1, b) := if_pos g
              rw [decide_eq_false (fun z => by injection z with z; rw [if_pos g] at z; omega)]
              refine iteF ⟨_, rfl, by show 2 ≤ sizeLine; decide, fun t1 h1 => ⟨t1, rfl, Same.new h1, ?_⟩⟩
              rw [e]
              exact upd_same
            · rw [decide_eq_true (by rw [if_neg g]; rfl)]
              refine iteT ⟨_, rfl, c, _, 0, _, rfl, rfl, SqT.of hc, rfl, _, rfl, c, _, 1, _, rfl, rfl, SqT.of hc, rfl, by show 2 ≤ sizeLine; decide, fun t1 h1 => ⟨t1, rfl, Same.new h1, ?_⟩⟩
              cases f : r.2.1 with
              | true =>
                rw [pst_a1 (A := A) (k := k) (a := a) (b := b) hrw g f, upd_same, ← f]
                rfl
              | false =>
                rw [pst_a0 (A := A) (k := k) (a := a) (b := b) hrw g f, upd_same, ← f]
                rfl
          rintro _ H4 ⟨t1, rfl, s4, ht1⟩
          have hc4 : isT H4 c (rz r) := s4 _ _ hc
          refine ⟨fun σ' H' => ∃ t2, σ' = sg t R S Fo c k m n a b (some (.int (s : Int))) (some (.int ((if a + 1 < k then a + 1 else 0 : Nat) : Int))) (some (.int ((if b + 1 < k then b + 1 else 0 : Nat) : Int))) (some (.ref t1)) (some (.ref t2)) x15 x16 x17 ∧ Same H4 H' ∧ H' t2 = some (.tup [.int (((pst A k (s, a, b) true).2.1 : Nat) : Int), .bl (pst A k (s, a, b) true).1]), ?_, ?_⟩
          · refine ⟨_, rfl, rfl, _, rfl, ?_⟩
            by_cases g : b + 1 < k
            · have e : pst A k (s, a, b) true = (false, s, a, b + 1) := if_pos g
              rw [decide_eq_false (fun z => by injection z with z; rw [if_pos g] at z; omega)]
              refine iteF ⟨_, rfl, by show 2 ≤ sizeLine; decide, fun t2 h2 => ⟨t2, rfl, Same.new h2, ?_⟩⟩
              rw [e]
              exact upd_same
            · rw [decide_eq_true (by rw [if_neg g]; rfl)]
              refine iteT ⟨_, rfl, c, _, 2, _, rfl, rfl, SqT.of hc4, rfl, _, rfl, c, _, 3, _, rfl, rfl, SqT.of hc4, rfl, by show 2 ≤ sizeLine; decide, fun t2 h2 => ⟨t2, rfl, Same.new h2, ?_⟩⟩
              cases f : r.2.2.2 with
              | true =>
                rw [pst_b1 (A := A) (k := k) (a := a) (b := b) hrw g f, upd_same, ← f]
                rfl
              | false =>
                rw [pst_b0 (A := A) (k := k) (a := a) (b := b) hrw g f, upd_same, ← f]
                rfl
          rintro _ H5 ⟨t2, rfl, s5, ht2⟩
          have ht1 := s5 _ _ ht1
          have o0 := PwM.pst_ok oA okq false
          have o1 := PwM.pst_ok oA okq true
          have e0 : (if (pst A k (s, a, b) false).1 = true then b * k + (if a + 1 < k then a + 1 else 0) else (if a + 1 < k then a + 1 else 0) * k + b) = (pst A k (s, a, b) false).2.2.1 * k + (pst A k (s, a, b) false).2.2.2 := by
            by_cases g : a + 1 < k
            · have e : pst A k (s, a, b) false = (false, s, a + 1, b) := if_pos g
              rw [e, if_pos g]
              rfl
            · rw [if_neg g]
              cases f : r.2.1 with
              | true =>
                rw [pst_a1 (A := A) (k := k) (a := a) (b := b) hrw g f]
                rfl
              | false =>
                rw [pst_a0 (A := A) (k := k) (a := a) (b := b) hrw g f]
                rfl
          have e1 : (if (pst A k (s, a, b) true).1 = true then (if b + 1 < k then b + 1 else 0) * k + a else a * k + (if b + 1 < k then b + 1 else 0)) = (pst A k (s, a, b) true).2.2.1 * k + (pst A k (s, a, b) true).2.2.2 := by
            by_cases g : b + 1 < k
            · have e : pst A k (s, a, b) true = (false, s, a, b + 1) := if_pos g
              rw [e, if_pos g]
              rfl
            · rw [if_neg g]
              cases f : r.2.2.2 with
              | true =>
                rw [pst_b1 (A := A) (k := k) (a := a) (b := b) hrw g f]
                rfl
              | false =>
                rw [pst_b0 (A := A) (k := k) (a := a) (b := b) hrw g f]
                rfl
          have u1 : (if a + 1 < k then a + 1 else 0) ≤ 4 := by split <;> omega
          have u2 : (if b + 1 < k then b + 1 else 0) ≤ 4 := by split <;> omega
          generalize (if a + 1 < k then a + 1 else 0) = up at e0 u1 ⊢
          generalize (if b + 1 < k then b + 1 else 0) = on at e1 u2 ⊢
          have hlr0 : prow A k (s, a, b) = prow A k (s, a, b) := rfl
          have elr : lrow A k (s, a, b) = (lcn n k (pst A k (s, a, b) false).2, (pst A k (s, a, b) false).1, lcn n k (pst A k (s, a, b) true).2, (pst A k (s, a, b) true).1) := by
            unfold lrow
            rw [hn]
          generalize pst A k (s, a, b) false = P0 at e0 o0 ht1 elr ⊢
          generalize pst A k (s, a, b) true = P1 at e1 o1 ht2 elr ⊢
          obtain ⟨f0, z0, c0, d0⟩ := P0
          obtain ⟨f1, z1, c1, d1⟩ := P1
          obtain ⟨oz0, oc0, od0⟩ := o0
          obtain ⟨oz1, oc1, od1⟩ := o1
          dsimp only at e0 e1 oz0 oc0 od0 oz1 oc1 od1 ht1 ht2 elr
          refine ⟨fun σ' H' => σ' = sg t R S Fo c k m n a b (some (.int (s : Int))) (some (.int (up : Int))) (some (.int (on : Int))) (some (.ref t1)) (some (.ref t2)) (some (.int ((c0 * k + d0 : Nat) : Int))) x16 x17 ∧ H5 = H', ?_, ?_⟩
          · refine ⟨_, rfl, t1, _, 1, _, rfl, rfl, SqT.of ht1, rfl, f0, rfl, ?_⟩
            cases f0 with
            | true =>
              rw [if_pos rfl] at e0
              refine iteT ⟨_, rfl, _, rfl, _, _, rfl, rfl, .inl ⟨by omega, by omega⟩, _, rfl, _, _, rfl, rfl, ?_, rfl⟩
              rw [← e0, Int.natCast_add, Int.natCast_mul]
              rfl
            | false =>
              rw [if_neg (by decide)] at e0
              refine iteF ⟨_, rfl, _, rfl, _, _, rfl, rfl, .inl ⟨by omega, by omega⟩, _, rfl, _, _, rfl, rfl, ?_, rfl⟩
              rw [← e0, Int.natCast_add, Int.natCast_mul]
              rfl
          rintro _ H5' ⟨rfl, rfl⟩
          refine ⟨fun σ' H' => σ' = sg t R S Fo c k m n a b (some (.int (s : Int))) (some (.int (up : Int))) (some (.int (on : Int))) (some (.ref t1)) (some (.ref t2)) (some (.int ((c0 * k + d0 : Nat) : Int))) (some (.int ((c1 * k + d1 : Nat) : Int))) x17 ∧ H5 = H', ?_, ?_⟩
          · refine ⟨_, rfl, t2, _, 1, _, rfl, rfl, SqT.of ht2, rfl, f1, rfl, ?_⟩
            cases f1 with
            | true =>
              rw [if_pos rfl] at e1
              refine iteT ⟨_, rfl, _, rfl, _, _, rfl, rfl, .inl ⟨by omega, by omega⟩, _, rfl, _, _, rfl, rfl, ?_, rfl⟩
              rw [← e1, Int.natCast_add, Int.natCast_mul]
              rfl
            | false =>
              rw [if_neg (by decide)] at e1
              refine iteF ⟨_, rfl, _, rfl, _, _, rfl, rfl, .inl ⟨by omega, by omega⟩, _, rfl, _, _, rfl, rfl, ?_, rfl⟩
              rw [← e1, Int.natCast_add, Int.natCast_mul]
              rfl
          rintro _ H5' ⟨rfl, rfl⟩
          have b0 := PwM.idx_lt oc0 od0
          have b1 := PwM.idx_lt oc1 od1
          refine ⟨_, rfl, _, rfl, _, _, rfl, rfl, .inl ⟨by omega, by omega⟩, _, rfl, t1, _, 0, _, rfl, rfl, SqT.of ht1, rfl, _, _, rfl, rfl, _, rfl, t1, _, 1, _, rfl, rfl, SqT.of ht1, rfl, by show 2 ≤ sizeLine; decide, fun t3 h3 => ?_⟩
          have e6 := Same.new (o := .tup [.int (((c0 * k + d0 : Nat) : Int) * (n : Int) + (z0 : Int)), .bl f0]) h3
          have g6 : (upd H5 t3 (.tup [.int (((c0 * k + d0 : Nat) : Int) * (n : Int) + (z0 : Int)), .bl f0])) t3 = some (.tup [.int (((c0 * k + d0 : Nat) : Int) * (n : Int) + (z0 : Int)), .bl f0]) := upd_same
          generalize (upd H5 t3 (.tup [.int (((c0 * k + d0 : Nat) : Int) * (n : Int) + (z0 : Int)), .bl f0])) = H6 at e6 g6 ⊢
          have t6 := (s4.trans s5).trans e6
          refine ⟨_, rfl, .inl ⟨rfl, _, SqL.of (t6 _ _ hd3)⟩, _, rfl, _, rfl, _, rfl, _, _, rfl, rfl, .inl ⟨by omega, by omega⟩, _, rfl, t2, _, 0, _, rfl, rfl, SqT.of (e6 _ _ ht2), rfl, _, _, rfl, rfl, _, rfl, t2, _, 1, _, rfl, rfl, SqT.of (e6 _ _ ht2), rfl, by show 2 ≤ sizeLine; decide, fun t4 h4 => ?_⟩
          have e7 := Same.new (o := .tup [.int (((c1 * k + d1 : Nat) : Int) * (n : Int) + (z1 : Int)), .bl f1]) h4
          refine catA (xs := [.int (((c0 * k + d0 : Nat) : Int) * (n : Int) + (z0 : Int)), .bl f0]) (ys := [.int (((c1 * k + d1 : Nat) : Int) * (n : Int) + (z1 : Int)), .bl f1]) (e7 _ _ g6) upd_same (by show 4 ≤ sizeLine; decide) (by intro z; cases z) fun p H8 s8 hp => ?_
          have t8 := (t6.trans e7).trans s8
          refine ⟨Fo, acc, _, rfl, rfl, t8 _ _ hd3, ?_, ?_⟩
          · rw [hacc]
            exact Nat.lt_of_le_of_lt (by omega : (a * k + b) * n + s ≤ 1000) (by decide)
          refine ⟨_, _, _, _, _, _, _, _, _, rfl, fun bb o e => ?_, acc ++ [.ref p], upd_same, ?_⟩
          · rw [upd_ne (ne_of_none e hFo)]
            exact t8 _ _ (s3 _ _ e)
          · have hd8 := t8 _ _ hd3
            have tk : ∀ b r, isT H8 b r → isT (upd H8 Fo (.lst (acc ++ [.ref p]))) b r := fun b r e => by
              show (upd H8 Fo (.lst (acc ++ [.ref p]))) b = _
              rw [upd_ne (ne_of (H := H8) e hd8 (by intro z; cases z))]
              exact e
            have ec : (a * k + b) * n + s = lcn A.length k (s, a, b) := by
              unfold lcn
              rw [hn]
            have ed : ldec A.length k (lcn A.length k (s, a, b)) = (s, a, b) := PwM.ldec_cn okq
            rw [show (a * k + b) * n + (s + 1) = (a * k + b) * n + s + 1 from rfl, List.range_succ, List.map_append, List.map_append]
            refine ((he3.sameT t8).imp tk).push ?_
            rw [ec]
            show isT (upd H8 Fo (.lst (acc ++ [.ref p]))) p (rz (lrow A k (ldec A.length k (lcn A.length k (s, a, b)))))
            rw [ed, elr]
            refine tk _ _ ?_
            show H8 p = _
            rw [hp]
            unfold lcn
            simp [rv, rz]
        · rintro σ' H3 ⟨x9, x10, x11, x12, x13, x14, x15, x16, x17, rfl, L3⟩
          refine ⟨_, _, _, _, _, _, _, _, _, _, rfl, L3.at ?_⟩
          rw [hlr, hn, ← Nat.succ_mul]
          rfl
      · rintro σ' H2 ⟨x8, x9, x10, x11, x12, x13, x14, x15, x16, x17, rfl, L2_⟩
        refine ⟨_, _, _, _, _, _, _, _, _, _, _, rfl, L2_.at ?_⟩
        show (a * k + k) * n = _
        rw [← Nat.succ_mul]
    rintro _ H1 ⟨x7, x8, x9, x10, x11, x12, x13, x14, x15, x16, x17, rfl, L1⟩
    obtain ⟨s1, accF, hF1, hEF⟩ := L1
    have hEF : Each H1 isT accF (((List.range (k * k * n)).map fun i => lrow A k (ldec A.length k i)).map rz) := hEF
    have mk1 : 1 ≤ m * k := Nat.mul_le_mul m1 k1
    have eN : (m : Int) * (k : Int) = ((m * k : Nat) : Int) := (Int.natCast_mul m k).symm
    refine ⟨_, rfl, _, rfl, _, _, rfl, rfl, .inl ⟨by omega, by omega⟩, ?_⟩
    dsimp only
    rw [eN]
    generalize hNN : m * k = N at mk1 mk4
    refine ⟨_, rfl, by omega, by omega, fun Sm hSm => ?_⟩
    have eS := Same.new (o := .lst []) hSm
    refine lc_range (n := ((N : Int)).toNat) (fun i H' => Same H1 H' ∧ ∃ acc, H' Sm = some (.lst acc) ∧ Ea H' (isPr2 k) acc (List.range i)) ?_ ?_ ?_
    · exact ⟨eS, [], upd_same, Ea.nil⟩
    · rintro i H2 hi ⟨s2, acc, hd, he⟩
      have hi : i < N := hi
      rw [Int.zero_add]
      refine ⟨rfl, ?_⟩
      dsimp only [tYes]
      rw [if_pos rfl]
      have b1 : (i : Int) / (k : Int) = ((i / k : Nat) : Int) := by simp
      have b2 : i / k ≤ i := Nat.div_le_self _ _
      refine ⟨_, rfl, _, rfl, _, _, rfl, rfl, ⟨by omega, by omega⟩, ?_⟩
      refine ⟨_, rfl, _, rfl, _, rfl, _, _, rfl, rfl, ⟨by omega, by omega⟩, _, rfl, _, _, rfl, rfl, .inr ⟨by omega, by omega⟩, _, _, rfl, rfl, by show 2 ≤ sizeLine; decide, fun t1 h1 => ?_⟩
      have b3 : (i : Int) - (i : Int) / (k : Int) * (k : Int) = ((i % k : Nat) : Int) := by
        have := Int.emod_def (i : Int) (k : Int)
        rw [Int.mul_comm] at this
        rw [← this]
        simp
      dsimp only
      rw [b3, b1]
      have e2 := Same.new (o := .tup [V.int ((i / k : Nat) : Int), .int ((i % k : Nat) : Int)]) h1
      have hT2 : isPr2 k (upd H2 t1 (.tup [V.int ((i / k : Nat) : Int), .int ((i % k : Nat) : Int)])) t1 i := upd_same
      have hd3 := e2 _ _ hd
      generalize (upd H2 t1 (.tup [V.int ((i / k : Nat) : Int), .int ((i % k : Nat) : Int)])) = H3 at e2 hT2 hd3 ⊢
      have s3 := s2.trans e2
      refine ⟨acc, hd3, ?_, ?_, acc ++ [.ref t1], upd_same, ?_⟩
      · rw [he.1, List.length_range]
        exact Nat.lt_of_lt_of_le (by omega : i < 16) (by decide)
      · intro b o e
        rw [upd_ne (ne_of_none e hSm)]
        exact s3 _ _ e
      · have tk : ∀ b ys, H3 b = some (.tup ys) → (upd H3 Sm (.lst (acc ++ [.ref t1]))) b = some (.tup ys) := fun b ys e => by
          rw [upd_ne (ne_of e hd3 (by intro z; cases z))]
          exact e
        rw [List.range_succ]
        exact (he.imp fun b r q => tk _ _ (e2 _ _ q)).push (tk _ _ hT2)
    rintro H2 ⟨s2, prs, hSm2, ePr⟩
    have ePr : Ea H2 (isPr2 k) prs (List.range N) := ePr
    have lP : prs.length = N := by rw [ePr.1, List.length_range]
    refine ⟨Nat.zero_le _, fun Bg hBg => ⟨_, _, rfl, ?_⟩⟩
    have eB := Same.new (o := .lst []) hBg
    have t2 := s1.trans s2
    have hBH : H Bg = none := L2.Same.none t2 hBg
    have B0 : NAcc H2 Bg (fun c => lcn n k (sq st m k c)) 0 (upd H2 Bg (.lst [])) := ⟨eB, upd_same⟩
    refine ⟨_, rfl, Sm, rfl, ⟨_, SqL.of (eB _ _ hSm2)⟩, ?_⟩
    refine for_list (xs := prs) (fun i σ' H' => ∃ x7 x8 x9 x10 x11 x12 x13 x14 x15 x16 x17 x20 x21 x22, σ' = [some (.ref t), some (.int (k : Int)), some (.ref R), some (.ref S), some (.int (m : Int)), some (.int (n : Int)), some (.ref Fo), x7, x8, x9, x10, x11, x12, x13, x14, x15, x16, x17, some (.ref Sm), some (.ref Bg), x20, x21, x22, none] ∧ NAcc H2 Bg (fun c => lcn n k (sq st m k c)) (i * N) H') ?_ ?_ ?_ ?_
    · exact ⟨_, _, _, _, _, _, _, _, _, _, _, _, _, _, rfl, B0.at (by omega)⟩
    · rintro i σ' H' _ ⟨_, _, _, _, _, _, _, _, _, _, _, _, _, _, _, s', _⟩
      exact SqL.of (s' _ _ hSm2)
    · rintro i x _ H3 hx ⟨x7, x8, x9, x10, x11, x12, x13, x14, x15, x16, x17, x20, x21, x22, rfl, N3⟩
      have hi : i < N := by rw [← lP]; exact (List.getElem?_eq_some_iff.mp hx).1
      obtain ⟨c, rfl, hc⟩ := ePr.2 i x i hx (by rw [List.getElem?_range hi])
      refine ⟨c, _, rfl, SqT.of (N3.1 _ _ hc), rfl, _, _, rfl, _, _, rfl, rfl, ?_⟩
      refine ⟨_, rfl, Sm, rfl, ⟨_, SqL.of (N3.1 _ _ hSm2)⟩, ?_⟩
      refine for_list (xs := prs) (fun j σ' H' => ∃ x8 x9 x10 x11 x12 x13 x14 x15 x16 x17 x21 x22, σ' = [some (.ref t), some (.int (k : Int)), some (.ref R), some (.ref S), some (.int (m : Int)), some (.int (n : Int)), some (.ref Fo), some (.int ((i % k : Nat) : Int)), x8, x9, x10, x11, x12, x13, x14, x15, x16, x17, some (.ref Sm), some (.ref Bg), some (.int ((i / k : Nat) : Int)), x21, x22, none] ∧ NAcc H2 Bg (fun c => lcn n k (sq st m k c)) (i * N + j) H') ?_ ?_ ?_ ?_
      · exact ⟨_, _, _, _, _, _, _, _, _, _, _, _, rfl, N3⟩
      · rintro j σ' H' _ ⟨_, _, _, _, _, _, _, _, _, _, _, _, _, s', _⟩
        exact SqL.of (s' _ _ hSm2)
      · rintro j x _ H4 hx ⟨x8, x9, x10, x11, x12, x13, x14, x15, x16, x17, x21, x22, rfl, s4, hB4⟩
        have hj : j < N := by rw [← lP]; exact (List.getElem?_eq_some_iff.mp hx).1
        obtain ⟨c', rfl, hc'⟩ := ePr.2 j x j hx (by rw [List.getElem?_range hj])
        have d1 : (i * N + j) / N = i := by
          rw [Nat.mul_comm, Nat.mul_add_div (by omega), Nat.div_eq_of_lt hj, Nat.add_zero]
        have d2 : (i * N + j) % N = j := by
          rw [Nat.mul_comm, Nat.mul_add_mod, Nat.mod_eq_of_lt hj]
        have p1 : i / k < m := by rw [Nat.div_lt_iff_lt_mul (by omega), hNN]; exact hi
        have p2 : j / k < m := by rw [Nat.div_lt_iff_lt_mul (by omega), hNN]; exact hj
        have hix : i / k * m + j / k < m * m := PwM.idx_lt p1 p2
        have esq : sq st m k (i * N + j) = (st.getD (i / k * m + j / k) 0, i % k, j % k) := by
          unfold sq
          rw [hNN, d1, d2]
        have hst : st.getD (i / k * m + j / k) 0 < A.length := PwM.get_lt hs (by rw [hl]; exact hix)
        have q1 := Nat.mod_lt i (by omega : 0 < k)
        have q2 := Nat.mod_lt j (by omega : 0 < k)
        have q3 := PwM.idx_lt q1 q2
        have hS4 := s4 _ _ (t2 _ _ hS)
        refine ⟨c', _, rfl, SqT.of (s4 _ _ hc'), rfl, _, _, rfl, _, _, rfl, rfl, ?_⟩
        refine ⟨_, rfl, _, rfl, _, rfl, _, _, rfl, rfl, .inr ⟨by omega, by omega⟩, _, rfl, _, _, rfl, rfl, S, _, _, .int ((st.getD (i / k * m + j / k) 0 : Nat) : Int), rfl, rfl, SqL.of hS4, ?_, ?_⟩
        · have ei : ((i / k : Nat) : Int) * (m : Int) + ((j / k : Nat) : Int) = ((i / k * m + j / k : Nat) : Int) := by
            rw [Int.natCast_add, Int.natCast_mul]
          rw [ei]
          refine atI_nat ?_
          unfold stZ
          rw [List.map_map, List.getElem?_map, List.getD_eq_getElem?_getD, List.getElem?_eq_getElem (by rw [hl]; exact hix)]
          rfl
        refine ⟨_, rfl, .inl ⟨rfl, _, SqL.of hB4⟩, _, rfl, _, rfl, _, _, rfl, rfl, .inr ⟨by omega, by omega⟩, _, rfl, _, _, rfl, rfl, _, rfl, _, _, rfl, rfl, .inr ⟨by omega, by omega⟩, _, rfl, _, _, rfl, rfl, Bg, _, _, rfl, rfl, hB4, ?_, ?_⟩
        · unfold natsV
          rw [List.length_map, List.length_map, List.length_range]
          have : i * N + j < N * N := PwM.idx_lt hi hj
          have : N * N ≤ 4 * 4 := Nat.mul_le_mul mk4 mk4
          exact Nat.lt_of_lt_of_le (by omega : i * N + j < 16) (by decide)
        refine ⟨_, _, _, _, _, _, _, _, _, _, _, _, rfl, fun b o e => ?_, ?_⟩
        · rw [upd_ne (ne_of_none e hBg)]
          exact s4 _ _ e
        · have ev : (((i % k : Nat) : Int) * (k : Int) + ((j % k : Nat) : Int)) * (n : Int) + ((st.getD (i / k * m + j / k) 0 : Nat) : Int) = ((lcn n k (sq st m k (i * N + j)) : Nat) : Int) := by
            rw [esq]
            unfold lcn
            simp
          rw [upd_same]
          dsimp only
          rw [ev, natsV_snoc, show i * N + (j + 1) = (i * N + j) + 1 from rfl, List.range_succ, List.map_append, List.map_cons, List.map_nil]
      · rintro σ' H4 ⟨x8, x9, x10, x11, x12, x13, x14, x15, x16, x17, x21, x22, rfl, N4⟩
        refine ⟨_, _, _, _, _, _, _, _, _, _, _, _, _, _, rfl, N4.at ?_⟩
        rw [lP, Nat.succ_mul]
    · rintro σ' H3 ⟨x7, x8, x9, x10, x11, x12, x13, x14, x15, x16, x17, x20, x21, x22, rfl, s3, hB3⟩
      refine ⟨_, rfl, _, rfl, _, rfl, _, rfl, _, _, rfl, rfl, .inl ⟨by omega, by omega⟩, by show 3 ≤ sizeLine; decide, fun t' ht' => ?_⟩
      have e4 := Same.new (o := .tup [.ref Fo, .ref Bg, .int ((m : Int) * (k : Int))]) ht'
      have t3 := s2.trans s3
      refine kk t' _ (s1.trans (t3.trans e4)) ⟨Fo, Bg, accF, hFo, hBH, ?_, e4 _ _ (t3 _ _ hF1), ?_, ?_⟩
      · rw [upd_same]
        show some (HO.tup [V.ref Fo, V.ref Bg, V.int ((m : Int) * (k : Int))]) = _
        rw [eN]
      · have := (hEF.sameT t3).sameT e4
        rw [← hn] at this
        exact this
      · rw [← natsV_ints]
        rw [e4 _ _ hB3, lP]
        unfold lps
        rw [hn, hNN]
end
end PA

set_option maxHeartbeats 4000000
/-! marks that are moved: a mark for each case, its word says what becomes of it -/
namespace RG3
/-- a word: the next mark, and 0 front, 1 back, else keep -/
abbrev Wd := Nat × Nat
def wAt (ws : List Wd) (a : Nat) : Wd := ws.getD a (0, 2)
def mkRow (ws : List Wd) (n a b : Nat) : Rn :=
  (if (wAt ws a).2 = 1 then b * n + (wAt ws a).1 else (wAt ws a).1 * n + b, decide ((wAt ws a).2 = 1), if (wAt ws b).2 = 0 then (wAt ws b).1 * n + a else a * n + (wAt ws b).1, decide ((wAt ws b).2 = 0))
def mkA (ws : List Wd) (n : Nat) : List Rn := (List.range (n * n)).map fun i => mkRow ws n (i / n) (i % n)
variable {ws : List Wd} {n : Nat}
theorem mkA_len : (mkA ws n).length = n * n := by unfold mkA; rw [List.length_map, List.length_range]
theorem mkA_at {a b : Nat} (ha : a < n) (hb : b < n) : rw_ (mkA ws n) (a * n + b) = mkRow ws n a b := by
  have e1 : (a * n + b) / n = a := by
    rw [Nat.mul_comm, Nat.mul_add_div (by omega), Nat.div_eq_of_lt hb, Nat.add_zero]
  have e2 : (a * n + b) % n = b := by rw [Nat.mul_comm, Nat.mul_add_mod, Nat.mod_eq_of_lt hb]
  have e : (mkA ws n)[a * n + b]? = some (mkRow ws n a b) := by
    unfold mkA
    rw [List.getElem?_map, List.getElem?_range (tri_ix ha hb)]
    show some (mkRow ws n ((a * n + b) / n) ((a * n + b) % n)) = _
    rw [e1, e2]
  unfold rw_
  rw [List.getD_eq_getElem?_getD, e]
  rfl
theorem mkA_ok (hw : ∀ a, a < n → (wAt ws a).1 < n) : LF.TOk (mkA ws n) := by
  intro r hr
  rw [mkA_len]
  obtain ⟨i, hi, rfl⟩ := List.mem_map.mp hr
  have hi := List.mem_range.mp hi
  have h0 : 0 < n := by
    rcases Nat.eq_zero_or_pos n with z | z
    · subst z
      omega
    · exact z
  have ha : i / n < n := Nat.div_lt_of_lt_mul hi
  have hb : i % n < n := Nat.mod_lt _ h0
  have wa := hw _ ha
  have wb := hw _ hb
  constructor
  · show (if (wAt ws (i / n)).2 = 1 then _ else _) < _
    split
    · exact tri_ix hb wa
    · exact tri_ix wa hb
  · show (if (wAt ws (i % n)).2 = 0 then _ else _) < _
    split
    · exact tri_ix wb ha
    · exact tri_ix ha wb
/-- a pair, by the marks and the places of its two -/
def pr (n a b : Nat) (x y : Int) : Nat × Bool := if x < y then (a * n + b, false) else (b * n + a, true)
/-- where a case stands that is moved so, beside another -/
def MvOk (mv : Nat) (x x' y : Int) : Prop := (mv = 0 → x' < y) ∧ (mv = 1 → y < x') ∧ (mv ≠ 0 → mv ≠ 1 → x' = x)
theorem pr_one {a b : Nat} {x y x' : Int} (ha : a < n) (hb : b < n) (hx : x ≠ y) (h : MvOk (wAt ws a).2 x x' y) : one (mkA ws n) (pr n a b x y) false = pr n (wAt ws a).1 b x' y := by
  obtain ⟨h0, h1, h2⟩ := h
  by_cases hlt : x < y
  · have e : pr n a b x y = (a * n + b, false) := if_pos hlt
    rw [e]
    unfold one
    dsimp only
    rw [mkA_at ha hb]
    by_cases g : (wAt ws a).2 = 1
    · have : ¬ x' < y := by have := h1 g; omega
      unfold pr
      rw [if_neg this]
      simp [LF.nx, LF.fl, mkRow, g]
    · have : x' < y := by
        by_cases g0 : (wAt ws a).2 = 0
        · exact h0 g0
        · rw [h2 g0 g]
          exact hlt
      unfold pr
      rw [if_pos this]
      simp [LF.nx, LF.fl, mkRow, g]
  · have e : pr n a b x y = (b * n + a, true) := if_neg hlt
    rw [e]
    unfold one
    dsimp only
    rw [mkA_at hb ha]
    by_cases g : (wAt ws a).2 = 0
    · unfold pr
      rw [if_pos (h0 g)]
      simp [LF.nx, LF.fl, mkRow, g]
    · have : ¬ x' < y := by
        by_cases g1 : (wAt ws a).2 = 1
        · have := h1 g1
          omega
        · rw [h2 g g1]
          exact hlt
      unfold pr
      rw [if_neg this]
      simp [LF.nx, LF.fl, mkRow, g]
theorem pr_two {a b : Nat} {x y y' : Int} (ha : a < n) (hb : b < n) (hx : x ≠ y) (h : MvOk (wAt ws b).2 y y' x) : one (mkA ws n) (pr n a b x y) true = pr n a (wAt ws b).1 x y' := by
  obtain ⟨h0, h1, h2⟩ := h
  by_cases hlt : x < y
  · have e : pr n a b x y = (a * n + b, false) := if_pos hlt
    rw [e]
    unfold one
    dsimp only
    rw [mkA_at ha hb]
    by_cases g : (wAt ws b).2 = 0
    · have : ¬ x < y' := by have := h0 g; omega
      unfold pr
      rw [if_neg this]
      simp [LF.nx, LF.fl, mkRow, g]
    · have : x < y' := by
        by_cases g1 : (wAt ws b).2 = 1
        · exact h1 g1
        · rw [h2 g g1]
          exact hlt
      unfold pr
      rw [if_pos this]
      simp [LF.nx, LF.fl, mkRow, g]
  · have e : pr n a b x y = (b * n + a, true) := if_neg hlt
    rw [e]
    unfold one
    dsimp only
    rw [mkA_at hb ha]
    by_cases g : (wAt ws b).2 = 1
    · unfold pr
      rw [if_pos (h1 g)]
      simp [LF.nx, LF.fl, mkRow, g]
    · have : ¬ x < y' := by
        by_cases g0 : (wAt ws b).2 = 0
        · have := h0 g0
          omega
        · rw [h2 g0 g]
          exact hlt
      unfold pr
      rw [if_neg this]
      simp [LF.nx, LF.fl, mkRow, g]
/-- where a case goes among two others -/
theorem mv_to (mv : Nat) (x y z : Int) (hy : x ≠ y) (hz : x ≠ z) : ∃ x', MvOk mv x x' y ∧ MvOk mv x x' z ∧ x' ≠ y ∧ x' ≠ z := by
  by_cases g0 : mv = 0
  · refine ⟨min y z - 1, ⟨fun _ => by omega, fun h => by omega, fun h => absurd g0 h⟩, ⟨fun _ => by omega, fun h => by omega, fun h => absurd g0 h⟩, by omega, by omega⟩
  · by_cases g1 : mv = 1
    · refine ⟨max y z + 1, ⟨fun h => by omega, fun _ => by omega, fun _ h => absurd g1 h⟩, ⟨fun h => by omega, fun _ => by omega, fun _ h => absurd g1 h⟩, by omega, by omega⟩
    · exact ⟨x, ⟨fun h => absurd h g0, fun h => absurd h g1, fun _ _ => rfl⟩, ⟨fun h => absurd h g0, fun h => absurd h g1, fun _ _ => rfl⟩, hy, hz⟩
theorem marked_none {ok : LF.TOk (mkA ws n)} {hm : 0 < n} (hw : ∀ a, a < n → (wAt ws a).1 < n) : ¬ HasR (ringSys (mkA ws n) (List.range (n * n)) n ok hm) := by
  refine no_ring (fun d => ∃ (a b c : Nat) (x y z : Int), a < n ∧ b < n ∧ c < n ∧ x ≠ y ∧ x ≠ z ∧ y ≠ z ∧ d = (pr n a b x y, pr n a c x z, pr n b c y z)) (fun p hp => ?_) (fun d k hk hI => ?_) fun d hI => ?_
  · have ha : p / (n * n) < n := Nat.div_lt_of_lt_mul hp
    have hb : p / n % n < n := Nat.mod_lt _ hm
    have hc : p % n < n := Nat.mod_lt _ hm
    have g : ∀ {i : Nat}, i < n * n → (List.range (n * n)).getD i 0 = i := fun {i} h => by
      rw [List.getD_eq_getElem?_getD, List.getElem?_range h]
      rfl
    refine ⟨_, _, _, 0, 1, 2, ha, hb, hc, by decide, by decide, by decide, ?_⟩
    unfold rootN
    rw [g (tri_ix ha hb), g (tri_ix ha hc), g (tri_ix hb hc)]
    rfl
  · obtain ⟨a, b, c, x, y, z, ha, hb, hc, xy, xz, yz, rfl⟩ := hI
    match k, hk with
    | 0, _ =>
      obtain ⟨x', m1, m2, h1, h2⟩ := mv_to (wAt ws a).2 x y z xy xz
      refine ⟨(wAt ws a).1, b, c, x', y, z, hw a ha, hb, hc, h1, h2, yz, ?_⟩
      show ((one _ _ false, one _ _ false, _) : Nd) = _
      rw [pr_one ha hb xy m1, pr_one ha hc xz m2]
    | 1, _ =>
      obtain ⟨y', m1, m2, h1, h2⟩ := mv_to (wAt ws b).2 y x z xy.symm yz
      refine ⟨a, (wAt ws b).1, c, x, y', z, ha, hw b hb, hc, h1.symm, xz, h2, ?_⟩
      show ((one _ _ true, _, one _ _ false) : Nd) = _
      rw [pr_two ha hb xy m1, pr_one hb hc yz m2]
    | 2, _ =>
      obtain ⟨z', m1, m2, h1, h2⟩ := mv_to (wAt ws c).2 z x y xz.symm yz.symm
      refine ⟨a, b, (wAt ws c).1, x, y, z', ha, hb, hw c hc, xy, h1.symm, h2.symm, ?_⟩
      show ((_, one _ _ true, one _ _ true) : Nd) = _
      rw [pr_two ha hc xz m1, pr_two hb hc yz m2]
  · obtain ⟨a, b, c, x, y, z, ha, hb, hc, xy, xz, yz, rfl⟩ := hI
    have f : ∀ (a b : Nat) (x y : Int), (pr n a b x y).2 = !decide (x < y) := fun a b x y => by
      unfold pr
      by_cases h : x < y
      · rw [if_pos h, decide_eq_true h]
        rfl
      · rw [if_neg h, decide_eq_false h]
        rfl
    show ringF (pr n a b x y).2 (pr n a c x z).2 (pr n b c y z).2 = false
    rw [f, f, f]
    unfold ringF
    by_cases h1 : x < y <;> by_cases h2 : x < z <;> by_cases h3 : y < z <;> simp [h1, h2, h3] <;> omega
end RG3

set_option maxHeartbeats 8000000
namespace PA
open PySem L2 RZ
open C8 (pss_cut tCut)
open RG3 (Wd wAt mkRow mkA)
abbrev sMk : Stmt := top 53
abbrev NMk : List Str := ["_law_words", "_law_size", "_law_found", "_law_ahead", "_law_behind", "_law_low", "_law_high", "_law_first", "_law_second"]
def mvS : Nat → Str
  | 0 => Str.ofString "front"
  | 1 => Str.ofString "back"
  | _ => Str.ofString "keep"
theorem mv_back (m : Nat) : decide (V.str (mvS m) = V.str (Str.ofString "back")) = decide (m = 1) := by
  match m with
  | 0 => decide +kernel
  | 1 => decide +kernel
  | m + 2 =>
    rw [decide_eq_false (by omega : ¬ m + 2 = 1)]
    show decide (V.str (Str.ofString "keep") = V.str (Str.ofString "back")) = false
    decide +kernel
theorem mv_front (m : Nat) : decide (V.str (mvS m) = V.str (Str.ofString "front")) = decide (m = 0) := by
  match m with
  | 0 => decide +kernel
  | 1 => decide +kernel
  | m + 2 =>
    rw [decide_eq_false (by omega : ¬ m + 2 = 0)]
    show decide (V.str (Str.ofString "keep") = V.str (Str.ofString "front")) = false
    decide +kernel
abbrev isWd : Hp → Addr → Wd → Prop := TupOf fun w => [V.int (w.1 : Int), .str (mvS w.2)]
def spMk : Sp := fun vs H Q _ => ∃ (W : Addr) (refs : List V) (ws : List Wd) (n : Nat), vs = [.ref W] ∧ H W = some (.lst refs) ∧ Ea H isWd refs ws ∧ ws.length = n ∧ 1 ≤ n ∧ n ≤ 4 ∧ (∀ a, a < n → (wAt ws a).1 < n) ∧
  ∀ t H', Same H H' → TabF H H' t (mkA ws n) (List.range (n * n)) (n : Int) → Q (.ref t) H'
/-- the rows made so far -/
def MAcc (H1 : Hp) (Fo : Addr) (ws : List Wd) (n c : Nat) (H' : Hp) : Prop := Same H1 H' ∧ ∃ acc, H' Fo = some (.lst acc) ∧ Ea H' isR acc ((List.range c).map fun i => mkRow ws n (i / n) (i % n))
theorem MAcc.at {H1 H' : Hp} {Fo : Addr} {ws : List Wd} {n c d : Nat} (h : MAcc H1 Fo ws n c H') (e : c = d) : MAcc H1 Fo ws n d H' := e ▸ h
section
variable {P : Program} {w : World} {K : PySem.W.Frag} {mg : Str → Option Value} {base : Heap} {C : Addr}
theorem scMk : FnScope NMk ["_law_words"] (defScope sMk) := ⟨rfl, rfl, rfl, by decide +kernel, rfl, by decide +kernel, by decide +kernel⟩
theorem ok_mk {f : Addr} {fd : FuncData} (F : Fun K "_law_p_marked" "_law_p_marked" sMk f fd) (T : Txt K mg C) : FnOk P w K mg base CX0 1 f fd ["_law_words"] spMk := by
  refine F.ok scMk (fun vs H Q E h => ?_) (fun cdv A0 outer s H vs Q E hr h => ?_)
  · obtain ⟨W, _, _, _, rfl, _⟩ := h
    rfl
  · obtain ⟨W, refs, ws, n, rfl, hW, hE, hn, n1, n4, hw, kk⟩ := h
    refine ⟨_, pss_cons (ps_par (i := 1) (j := 2) (by rfl) scMk.nd rfl rfl (by decide) rfl rfl (pa_cons (pe_callB call_len_seq (by rfl) T.len_ PySem.boot_len (pa_cons (pv 0) pa_nil)) (pa_cons (pe_lst pa_nil) pa_nil)) (by rfl))
      (pss_cons (ps_for PassesOwn.never rfl (pi_range1 (by rfl) T.range_ (pa_cons (pv 1) pa_nil)) (pg_name (i := 3) scMk.nd rfl (Or.inl rfl))
        (pss_one (ps_for PassesOwn.never rfl (pi_range1 (by rfl) T.range_ (pa_cons (pv 1) pa_nil)) (pg_name (i := 4) scMk.nd rfl (Or.inl rfl))
          (pss_cons (ps_par (i := 5) (j := 6) (by rfl) scMk.nd rfl rfl (by decide) rfl rfl (pa_cons (pe_ix ix_list (pv 0) (pv 3) (fun _ _ => rfl)) (pa_cons (pe_ix ix_list (pv 0) (pv 4) (fun _ _ => rfl)) pa_nil)) (by rfl))
          (pss_cons (ps_par (i := 7) (j := 8) (by rfl) scMk.nd rfl rfl (by decide) rfl rfl (pa_cons (pe_op op_add (pe_op op_mul (pe_ix ix_tup (pv 5) pe_int (fun _ _ => rfl)) (pv 1)) (pv 4)) (pa_cons (pe_op op_add (pe_op op_mul (pv 3) (pv 1)) (pe_ix ix_tup (pv 6) pe_int (fun _ _ => rfl))) pa_nil)) (by rfl))
          (pss_cut (ps_if (pt_cmpR op_eq (pe_ix ix_tup (pv 5) pe_int (fun _ _ => rfl)) pe_str (nomark _)) (pss_one (ps_set (i := 7) scMk.nd rfl (Or.inl rfl) (pe_op op_add (pe_op op_mul (pv 4) (pv 1)) (pe_ix ix_tup (pv 5) pe_int (fun _ _ => rfl))))) pss_nil)
          (pss_cut (ps_if (pt_cmpR op_eq (pe_ix ix_tup (pv 6) pe_int (fun _ _ => rfl)) pe_str (nomark _)) (pss_one (ps_set (i := 8) scMk.nd rfl (Or.inl rfl) (pe_op op_add (pe_op op_mul (pe_ix ix_tup (pv 6) pe_int (fun _ _ => rfl)) (pv 1)) (pv 3)))) pss_nil)
          (pss_one (ps_expr (pe_bm PySem.F.plainAttrs_list PySem.F.slot_list_append PySem.F.type_list_append mt_append (pv 2) (pa_cons (pe_tup (pa_cons (pv 7) (pa_cons (pe_cmpR op_eq (pe_ix ix_tup (pv 5) pe_int (fun _ _ => rfl)) pe_str (nomark _)) (pa_cons (pv 8) (pa_cons (pe_cmpR op_eq (pe_ix ix_tup (pv 6) pe_int (fun _ _ => rfl)) pe_str (nomark _)) pa_nil))))) pa_nil)))))))))))
      (pss_one (ps_ret (pe_tup (pa_cons (pv 2) (pa_cons (pe_listRg (by rfl) (by rfl) T.list_ (prg_1 (by rfl) T.range_ (pe_op op_mul (pv 1) (pv 1)))) (pa_cons (pv 1) pa_nil))))))), ?_⟩
    have hl : refs.length = n := by rw [hE.1, hn]
    have wd : ∀ {a : Nat} {H' : Hp}, a < n → Same H H' → ∃ c, atI refs (a : Int) = some (.ref c) ∧ isWd H' c (wAt ws a) := fun {a H'} ha s => by
      obtain ⟨c, hc, q⟩ := hE.get (i := a) (r := wAt ws a) (by
        unfold RG3.wAt
        rw [List.getD_eq_getElem?_getD, List.getElem?_eq_getElem (by omega)]
        rfl)
      exact ⟨c, atI_nat hc, s _ _ q⟩
    refine ⟨_, rfl, W, _, rfl, .inl (SqL.of hW), Nat.zero_le _, fun Fo hFo => ⟨_, _, rfl, ?_⟩⟩
    rw [hl]
    have eF := Same.new (o := .lst []) hFo
    refine ⟨_, rfl, (n : Int), rfl, by omega, by omega, ?_⟩
    refine for_range (lo := 0) (n := ((n : Int)).toNat) (fun i σ' H' => ∃ x3 x4 x5 x6 x7 x8, σ' = [some (.ref W), some (.int (n : Int)), some (.ref Fo), x3, x4, x5, x6, x7, x8] ∧ MAcc H Fo ws n (i * n) H') ?_ ?_ ?_
    · exact ⟨_, _, _, _, _, _, rfl, MAcc.at (c := 0) ⟨eF, [], upd_same, Ea.nil⟩ (by simp)⟩
    · rintro i _ H2 hi ⟨x3, x4, x5, x6, x7, x8, rfl, R1⟩
      have hi : i < n := hi
      rw [show (0 : Int) + (i : Int) = (i : Int) from Int.zero_add _]
      refine ⟨_, rfl, (n : Int), rfl, by omega, by omega, ?_⟩
      refine for_range (lo := 0) (n := ((n : Int)).toNat) (fun j σ' H' => ∃ x4 x5 x6 x7 x8, σ' = [some (.ref W), some (.int (n : Int)), some (.ref Fo), some (.int (i : Int)), x4, x5, x6, x7, x8] ∧ MAcc H Fo ws n (i * n + j) H') ?_ ?_ ?_
      · exact ⟨_, _, _, _, _, rfl, R1⟩
      · rintro j _ H3 hj ⟨x4, x5, x6, x7, x8, rfl, s3, acc, hd, he⟩
        have hj : j < n := hj
        rw [show (0 : Int) + (j : Int) = (j : Int) from Int.zero_add _]
        obtain ⟨c1, hc1, q1⟩ := wd hi s3
        obtain ⟨c2, hc2, q2⟩ := wd hj s3
        have wi := hw i hi
        have wj := hw j hj
        have hW3 := SqL.of (K := K) (s3 _ _ hW)
        have e1 : ((wAt ws i).1 : Int) * (n : Int) + (j : Int) = (((wAt ws i).1 * n + j : Nat) : Int) := nat3 _ _ _
        have e2 : (i : Int) * (n : Int) + ((wAt ws j).1 : Int) = ((i * n + (wAt ws j).1 : Nat) : Int) := nat3 _ _ _
        have e3 : (j : Int) * (n : Int) + ((wAt ws i).1 : Int) = ((j * n + (wAt ws i).1 : Nat) : Int) := nat3 _ _ _
        have e4 : ((wAt ws j).1 : Int) * (n : Int) + (i : Int) = (((wAt ws j).1 * n + i : Nat) : Int) := nat3 _ _ _
        refine ⟨_, rfl, _, rfl, W, _, _, _, rfl, rfl, hW3, hc1, _, rfl, _, rfl, W, _, _, _, rfl, rfl, hW3, hc2, _, _, rfl, ?_⟩
        refine ⟨_, rfl, c1, _, 0, _, rfl, rfl, SqT.of q1, rfl, _, rfl, _, _, rfl, rfl, .inr ⟨by omega, by omega⟩, _, rfl, _, _, rfl, rfl, ?_⟩
        refine ⟨_, rfl, _, rfl, _, _, rfl, rfl, .inr ⟨by omega, by omega⟩, _, rfl, c2, _, 0, _, rfl, rfl, SqT.of q2, rfl, _, _, rfl, rfl, _, _, rfl, ?_⟩
        refine ⟨fun σ' H' => σ' = [some (.ref W), some (.int (n : Int)), some (.ref Fo), some (.int (i : Int)), some (.int (j : Int)), some (.ref c1), some (.ref c2), some (.int ((if (wAt ws i).2 = 1 then j * n + (wAt ws i).1 else (wAt ws i).1 * n + j : Nat) : Int)), some (.int ((i : Int) * (n : Int) + ((wAt ws j).1 : Int)))] ∧ H' = H3, ?_, ?_⟩
        · refine ⟨_, rfl, c1, _, 1, _, rfl, rfl, SqT.of q1, rfl, rfl, _, rfl, ?_⟩
          rw [mv_back]
          by_cases g : (wAt ws i).2 = 1
          · rw [decide_eq_true g, if_pos g]
            refine iteT ?_
            refine ⟨_, rfl, _, rfl, _, _, rfl, rfl, .inr ⟨by omega, by omega⟩, _, rfl, c1, _, 0, _, rfl, rfl, SqT.of q1, rfl, _, _, rfl, rfl, ?_, rfl⟩
            rw [← e3]
            rfl
          · rw [decide_eq_false g, if_neg g]
            refine iteF ⟨?_, rfl⟩
            rw [← e1]
            rfl
        rintro _ H4 ⟨rfl, h4⟩
        have h4 := h4.symm
        subst h4
        refine ⟨fun σ' H' => σ' = [some (.ref W), some (.int (n : Int)), some (.ref Fo), some (.int (i : Int)), some (.int (j : Int)), some (.ref c1), some (.ref c2), some (.int ((if (wAt ws i).2 = 1 then j * n + (wAt ws i).1 else (wAt ws i).1 * n + j : Nat) : Int)), some (.int ((if (wAt ws j).2 = 0 then (wAt ws j).1 * n + i else i * n + (wAt ws j).1 : Nat) : Int))] ∧ H' = H3, ?_, ?_⟩
        · refine ⟨_, rfl, c2, _, 1, _, rfl, rfl, SqT.of q2, rfl, rfl, _, rfl, ?_⟩
          rw [mv_front]
          by_cases g : (wAt ws j).2 = 0
          · rw [decide_eq_true g, if_pos g]
            refine iteT ?_
            refine ⟨_, rfl, c2, _, 0, _, rfl, rfl, SqT.of q2, rfl, _, rfl, _, _, rfl, rfl, .inr ⟨by omega, by omega⟩, _, rfl, _, _, rfl, rfl, ?_, rfl⟩
            rw [← e4]
            rfl
          · rw [decide_eq_false g, if_neg g]
            refine iteF ⟨?_, rfl⟩
            rw [← e2]
        rintro _ H4 ⟨rfl, h4⟩
        have h4 := h4.symm
        subst h4
        have hal : acc.length = i * n + j := by rw [he.1, List.length_map, List.length_range]
        have hij := idx2 hi hj
        have nn : n * n ≤ 4 * 4 := Nat.mul_le_mul n4 n4
        refine ⟨_, rfl, .inl ⟨rfl, _, SqL.of hd⟩, _, rfl, _, rfl, c1, _, 1, _, rfl, rfl, SqT.of q1, rfl, rfl, ?_⟩
        rw [mv_back]
        refine ⟨_, rfl, _, rfl, c2, _, 1, _, rfl, rfl, SqT.of q2, rfl, rfl, ?_⟩
        rw [mv_front]
        refine ⟨by show 4 ≤ sizeLine; decide, fun t0 ht0 => ?_⟩
        have e6 := Same.new (o := .tup (rv (rz (mkRow ws n i j)))) ht0
        have g6 : (upd H3 t0 (.tup (rv (rz (mkRow ws n i j))))) t0 = some (.tup (rv (rz (mkRow ws n i j)))) := upd_same
        have hd6 := e6 _ _ hd
        refine ⟨Fo, acc, _, rfl, rfl, hd6, by rw [hal]; exact Nat.lt_of_lt_of_le (by omega : i * n + j < 16) (by decide), ?_⟩
        refine ⟨_, _, _, _, _, rfl, fun b o q => ?_, acc ++ [.ref t0], upd_same, ?_⟩
        · rw [upd_ne (ne_of_none q hFo)]
          exact e6 _ _ (s3 _ _ q)
        · have mv : ∀ c r, isR (upd H3 t0 (.tup (rv (rz (mkRow ws n i j))))) c r → isR (upd (upd H3 t0 (.tup (rv (rz (mkRow ws n i j))))) Fo (.lst (acc ++ [.ref t0]))) c r := fun c r q => (show (upd (upd H3 t0 (.tup (rv (rz (mkRow ws n i j))))) Fo _) c = some (.tup (rv (rz r))) by
            rw [upd_ne (ne_of (show (upd H3 t0 (.tup (rv (rz (mkRow ws n i j))))) c = some (.tup (rv (rz r))) from q) hd6 (by intro z; cases z))]
            exact q)
          rw [show i * n + (j + 1) = (i * n + j) + 1 from rfl, List.range_succ, List.map_append]
          refine Ea.push (he.imp fun c r q => mv c r (e6 _ _ q)) ?_
          have d1 : (i * n + j) / n = i := by rw [Nat.mul_comm, Nat.mul_add_div (by omega), Nat.div_eq_of_lt hj, Nat.add_zero]
          have d2 : (i * n + j) % n = j := by rw [Nat.mul_comm, Nat.mul_add_mod, Nat.mod_eq_of_lt hj]
          show isR _ t0 (mkRow ws n ((i * n + j) / n) ((i * n + j) % n))
          rw [d1, d2]
          exact mv t0 _ g6
      · rintro _ H3 ⟨x4, x5, x6, x7, x8, rfl, R2⟩
        exact ⟨_, _, _, _, _, _, rfl, R2.at (by show i * n + n = _; rw [Nat.succ_mul])⟩
    rintro _ H2 ⟨x3, x4, x5, x6, x7, x8, rfl, s2, acc, hd, he⟩
    have nn : n * n ≤ 4 * 4 := Nat.mul_le_mul n4 n4
    have he : Ea H2 isR acc (mkA ws n) := he
    have enn : (n : Int) * (n : Int) = ((n * n : Nat) : Int) := by simp
    refine ⟨_, rfl, _, rfl, _, rfl, _, _, rfl, rfl, .inr ⟨by omega, by omega⟩, ((n * n : Nat) : Int), by rw [← enn], ⟨by decide, by decide, by omega, by omega, by omega⟩, fun q hq => ?_⟩
    rw [rg0]
    have eq_ := Same.new (o := .lst (natsV (List.range (n * n)))) hq
    have gq : (upd H2 q (.lst (natsV (List.range (n * n))))) q = some (.lst (natsV (List.range (n * n)))) := upd_same
    refine ⟨_, rfl, by show 3 ≤ sizeLine; decide, fun t ht => ?_⟩
    have et := Same.new (o := .tup [.ref Fo, .ref q, .int (n : Int)]) ht
    refine kk t _ ((s2.trans eq_).trans et) ⟨Fo, q, acc, hFo, L2.Same.none s2 hq, upd_same, et _ _ (eq_ _ _ hd), ?_, ?_⟩
    · refine ⟨by rw [List.length_map]; exact he.1, fun i x r hx hr => ?_⟩
      rw [List.getElem?_map, Option.map_eq_some_iff] at hr
      obtain ⟨r0, hr, rfl⟩ := hr
      obtain ⟨c, hc, q⟩ := he.2 i x r0 hx hr
      exact ⟨c, hc, et _ _ (eq_ _ _ q)⟩
    · rw [← natsV_ints]
      exact et _ _ gq
end
end PA

set_option maxHeartbeats 8000000
namespace PA
open PySem L2 RZ
open C8 (pss_cut tCut)
open RG3 (Wd wAt mkRow mkA)
abbrev sRu : Stmt := top 56
abbrev NRu : List Str := ["_law_stream", "_law_most", "_law_kind", "_law_size", "_law_words", "_law_k"]
/-- a table of the families that order -/
structure Fam (A : List Rn) (st : List Nat) (m : Nat) : Prop where
  g : GoodN A st (m : Int)
  l16 : A.length ≤ 16
  few : A.length < 10 → m < 3 → A.length ≤ 4
  no : ∀ ok hm, ¬ RG3.HasR (RG3.ringSys A st m ok hm)
theorem fam_last {j : Nat} (hj : j = 1 ∨ j = 2 ∨ j = 3) : Fam (rowsT j) [0] 1 := by
  obtain ⟨h1, h2, h3, h4⟩ := rowsT_ok hj
  refine ⟨⟨h1, fun x hx => ?_, by omega, .r1⟩, by omega, fun h _ => ?_, fun ok hm => RG3.last_none hj⟩
  · rw [List.mem_singleton.mp hx]
    exact h3
  · rw [h2] at h ⊢
    rcases hj with rfl | rfl | rfl
    · decide
    · decide
    · exact absurd h (by decide)
theorem fam_pow {j : Nat} (hj : j = 1 ∨ j = 2) : Fam (PwM.lpw (rowsT j) 2) (PwM.lps [0] 1 2 (rowsT j).length) 2 := by
  have hj3 : j = 1 ∨ j = 2 ∨ j = 3 := by omega
  obtain ⟨h1, h2, h3, h4⟩ := rowsT_ok hj3
  have hs : ∀ x ∈ ([0] : List Nat), x < (rowsT j).length := fun x hx => by rw [List.mem_singleton.mp hx]; exact h3
  have hl : ([0] : List Nat).length = 1 * 1 := rfl
  have hn : nT j ≤ 3 := by rcases hj with rfl | rfl <;> decide
  have ok := PwM.lpw_tok (A := rowsT j) (k := 2) h1
  have so := PwM.lps_lt (A := rowsT j) (m := 1) (k := 2) hs hl
  have ll : (PwM.lpw (rowsT j) 2).length = 2 * 2 * (rowsT j).length := PwM.lpw_len
  have sl : (PwM.lps [0] 1 2 (rowsT j).length).length = 2 * 2 := PwM.lps_len
  refine ⟨⟨ok, so, by rw [ll, h2]; omega, by rw [sl]; exact .r2⟩, by rw [ll, h2]; omega, fun h _ => ?_, fun ok2 hm hr => ?_⟩
  · rw [ll, h2] at h ⊢
    rcases hj with rfl | rfl
    · decide
    · exact absurd h (by decide)
  · have okp : LF.TOk (PwM.pw (rowsT j) 2) := PwM.pw_tok h1
    have sm := PwM.Sim.lpw (k := 2) (m := 1) h1 hs hl
    have hr2 : RG3.HasR (RG3.ringSys (PwM.pw (rowsT j) 2) (PwM.ps [0] 1 2) (1 * 2) okp hm) := by
      obtain ⟨p, c, hc, z⟩ := hr
      refine ⟨p, c, hc, (RG3.pt_alk (oA := ok2) (oB := okp) (hm := hm) (fun i hi => ?_) p c).mp z⟩
      have i1 : i < (PwM.lps [0] 1 2 (rowsT j).length).length := by rw [sl]; exact hi
      have i2 : i < (PwM.ps [0] 1 2).length := by rw [PwM.ps_len]; exact hi
      exact ⟨PwM.get_lt so i1, PwM.get_lt (PwM.ps_lt hs hl) i2, sm.get hi⟩
    exact RG3.last_none hj3 (RG3.pw_has1 (ok := h1) (ok' := okp) (hm := by decide) (hm' := hm) (by decide) hs hl hr2)
theorem fam_mk {ws : List Wd} {n : Nat} (n1 : 1 ≤ n) (n4 : n ≤ 4) (hw : ∀ a, a < n → (wAt ws a).1 < n) : Fam (mkA ws n) (List.range (n * n)) n := by
  have nn : n * n ≤ 4 * 4 := Nat.mul_le_mul n4 n4
  refine ⟨⟨RG3.mkA_ok hw, fun x hx => ?_, by rw [RG3.mkA_len]; omega, ?_⟩, by rw [RG3.mkA_len]; omega, fun h h3 => ?_, fun ok hm => RG3.marked_none hw⟩
  · rw [RG3.mkA_len]
    exact List.mem_range.mp hx
  · rw [List.length_range]
    exact root_nn n1 n4
  · rw [RG3.mkA_len]
    have : n = 1 ∨ n = 2 := by omega
    rcases this with rfl | rfl <;> decide
def spRu : Sp := fun vs H Q _ => ∃ (a l : Addr) (n most : Nat), vs = [.ref a, .int (most : Int)] ∧ StreamAt H a l n ∧ n ≤ 10000 ∧ 1 ≤ most ∧ most ≤ 4 ∧
  ∀ (t : Addr) (A : List Rn) (st : List Nat) (m n' : Nat) (H' : Hp), TabF H H' t A st (m : Int) → Fam A st m → StreamAt H' a l n' → n' ≤ n + 20 → Keep a l H H' → Q (.ref t) H'
theorem keep_tup {a l c : Addr} {n : Nat} {H H' : Hp} {xs : List V} (S : StreamAt H a l n) (k : Keep a l H H') (h : H c = some (.tup xs)) : H' c = some (.tup xs) := by
  obtain ⟨ne, ns, x, z, w1, w2, _⟩ := S
  exact k _ _ (ne_of h w1 (by intro z; cases z)) (ne_of h w2 (by intro z; cases z)) h
theorem TabF.from {a l t : Addr} {n n' : Nat} {H H1 H2 : Hp} {rn : List Rn} {st : List Nat} {k : Int} (h : TabF H1 H2 t rn st k) (S : StreamAt H a l n) (kp : Keep a l H H1) (S1 : StreamAt H1 a l n') : TabF H H2 t rn st k := by
  obtain ⟨R, S', refs, h1, h2, h3⟩ := h
  have up : ∀ {p : Addr}, H1 p = none → H p = none := fun {p} hp => by
    obtain ⟨pa, pl⟩ := S1.ne hp
    exact keep_none kp pa pl hp
  exact ⟨R, S', refs, up h1, up h2, h3⟩
section
variable {P : Program} {w : World} {K : PySem.W.Frag} {mg : Str → Option Value} {base : Heap} {C : Addr}
theorem scRu : FnScope NRu ["_law_stream", "_law_most"] (defScope sRu) := ⟨rfl, rfl, rfl, by decide +kernel, rfl, by decide +kernel, by decide +kernel⟩
theorem ok_ru {f g1 g2 g3 g4 g5 g6 : Addr} {fd gd1 gd2 gd3 gd4 gd5 gd6 : FuncData} (F : Fun K "_law_p_rule" "_law_p_rule" sRu f fd) (T : Txt K mg C) (D1 : Df K mg "_law_draw" sDraw g1 gd1 ["_law_stream", "_law_many"]) (D2 : Df K mg "_law_pick" sPick g2 gd2 ["_law_stream", "_law_some"])
    (D3 : Df K mg "_law_p_last" sPLast g3 gd3 ["_law_j"]) (D4 : Df K mg "_law_p_jth" sJth g4 gd4 ["_law_word", "_law_sign", "_law_j"]) (D5 : Df K mg "_law_p_power" sPP g5 gd5 ["_law_table", "_law_k"]) (D6 : Df K mg "_law_p_marked" sMk g6 gd6 ["_law_words"]) : FnOk P w K mg base CX0 3 f fd ["_law_stream", "_law_most"] spRu := by
  have GDraw : FnOk P w K mg base CX0 1 g1 gd1 ["_law_stream", "_law_many"] spDraw := ok_draw D1.F T
  have GPick : FnOk P w K mg base CX0 2 g2 gd2 ["_law_stream", "_law_some"] spPick := ok_pick D2.F T D1
  have GPL : FnOk P w K mg base CX0 2 g3 gd3 ["_law_j"] (spPL K) := ok_plast D3.F T D4
  have GPP : FnOk P w K mg base CX0 1 g5 gd5 ["_law_table", "_law_k"] spPP := ok_pp D5.F T
  have GMk : FnOk P w K mg base CX0 1 g6 gd6 ["_law_words"] spMk := ok_mk D6.F T
  refine F.ok scRu (fun vs H Q E h => ?_) (fun cdv A0 outer s H vs Q E hr h => ?_)
  · obtain ⟨a, l, _, most, rfl, _⟩ := h
    rfl
  · obtain ⟨a, l, n, most, rfl, S0, hn, m1, m4, kk⟩ := h
    have hr1 : Room 1 _ := hr.mono (by decide)
    refine ⟨_, pss_cons (ps_set (i := 2) scRu.nd rfl (Or.inl rfl) (pe_call GDraw hr1 rfl D1.M D1.F.kp D1.B .nil pass0 (pa_cons (pv 0) (pa_cons pe_int pa_nil))))
      (pss_cons (ps_if (pt_cmpR op_eq (pv 2) pe_int (nomark _)) (pss_one (ps_ret (pe_call GPL hr rfl D3.M D3.F.kp D3.B .nil pass0 (pa_cons (pe_op op_add pe_int (pe_call GDraw hr1 rfl D1.M D1.F.kp D1.B .nil pass0 (pa_cons (pv 0) (pa_cons pe_int pa_nil)))) pa_nil)))) pss_nil)
      (pss_cut (ps_if (PW.pt (pw_and (pt_cmpR op_eq (pv 2) pe_int (nomark _)) (pw_and1 (pt_cmpR op_gt (pv 1) pe_int (nomark _)))))
        (pss_one (ps_ret (pe_call GPP hr1 rfl D5.M D5.F.kp D5.B .nil pass0 (pa_cons (pe_call GPL hr rfl D3.M D3.F.kp D3.B .nil pass0 (pa_cons (pe_op op_add pe_int (pe_call GDraw hr1 rfl D1.M D1.F.kp D1.B .nil pass0 (pa_cons (pv 0) (pa_cons pe_int pa_nil)))) pa_nil)) (pa_cons pe_int pa_nil))))) pss_nil)
      (pss_cut (ps_set (i := 3) scRu.nd rfl (Or.inr rfl) (pe_op op_add pe_int (pe_call GDraw hr1 rfl D1.M D1.F.kp D1.B .nil pass0 (pa_cons (pv 0) (pa_cons (pv 1) pa_nil)))))
      (pss_cons (ps_setLc (i := 4) (own := [("_law_k", 5)]) (g := gName 5) (tt := tYes) (by rfl) scRu.nd rfl rfl (sw_true rfl rfl rfl (by decide +kernel)) (pi_range1 (by rfl) T.range_ (pa_cons (pv 3) pa_nil)) (blkOk_by (N := NRu) (sc := defScope sRu) (by decide +kernel))
          (fun _ _ _ _ _ => pg_name (i := 5) scRu.nd rfl (Or.inl rfl)) (fun _ _ _ _ _ => pts_nil)
          (fun _ _ _ _ _ => pe_tup (pa_cons (pe_call GDraw hr1 rfl D1.M D1.F.kp D1.B .nil pass0 (pa_cons (pv 0) (pa_cons (pv 3) pa_nil))) (pa_cons (pe_call GPick hr rfl D2.M D2.F.kp D2.B .nil pass0 (pa_cons (pv 0) (pa_cons (pe_lst (pa_cons pe_str (pa_cons pe_str (pa_cons pe_str (pa_cons pe_str pa_nil))))) pa_nil))) pa_nil))))
      (pss_one (ps_ret (pe_call GMk hr1 rfl D6.M D6.F.kp D6.B .nil pass0 (pa_cons (pv 4) pa_nil)))))))), ?_⟩
    refine ⟨_, rfl, a, l, n, 6, rfl, S0, by omega, by decide, sm48 (by decide) (by decide), fun kd H1 kd0 kd1 S1 kp1 => ?_⟩
    refine ⟨_, rfl, rfl, _, rfl, ifD_2 (fun hk => ?_) (fun hk => ?_)⟩
    · refine ⟨_, rfl, a, l, _, 3, rfl, S1, by omega, by decide, sm48 (by decide) (by decide), fun r1 H2 r10 r11 S2 kp2 => ⟨_, _, rfl, rfl, ?_⟩⟩
      obtain ⟨j, hj, ej⟩ : ∃ j : Nat, (j = 1 ∨ j = 2 ∨ j = 3) ∧ (1 : Int) + r1 = (j : Int) := ⟨(1 + r1).toNat, by omega, by omega⟩
      refine ⟨j, by show [V.int ((1 : Int) + r1)] = _; rw [ej], hj, fun t0 F0 S0' refs H3 s3 ht0 hF0 hE0 hS0 nS0 nF0 => ?_⟩
      have tf : TabF H2 H3 t0 (rowsT j) [0] ((1 : Nat) : Int) := ⟨F0, S0', refs, nF0, nS0, ht0, hF0, ?_, ?_⟩
      · have kp := (kp1.trans kp2).trans (Keep.of (a := a) (l := l) s3)
        exact kk t0 _ _ 1 _ H3 (tf.from S0 (kp1.trans kp2) S2) (fam_last hj) (S2.same s3) (by omega) kp
      · exact ⟨by rw [List.length_map]; exact hE0.1, fun i x r hx hr => by
          rw [List.getElem?_map, Option.map_eq_some_iff] at hr
          obtain ⟨r0, hr, rfl⟩ := hr
          exact hE0.2 i x r0 hx hr⟩
      · rw [← natsV_ints]
        exact hS0
    refine ⟨fun σ' H' => σ' = [some (.ref a), some (.int (most : Int)), some (.int kd), none, none, none] ∧ H' = H1, ?_, ?_⟩
    · refine ⟨_, rfl, rfl, _, rfl, ?_⟩
      by_cases hk1 : kd = 1
      · rw [decide_eq_true (by rw [hk1])]
        refine iteT ⟨_, rfl, _, _, rfl, rfl, _, rfl, ?_⟩
        by_cases hm1 : (1 : Int) < (most : Int)
        · rw [decide_eq_true hm1]
          refine iteT ?_
          refine ⟨_, rfl, a, l, _, 2, rfl, S1, by omega, by decide, sm48 (by decide) (by decide), fun r1 H2 r10 r11 S2 kp2 => ⟨_, _, rfl, rfl, ?_⟩⟩
          obtain ⟨j, hj, ej⟩ : ∃ j : Nat, (j = 1 ∨ j = 2) ∧ (1 : Int) + r1 = (j : Int) := ⟨(1 + r1).toNat, by omega, by omega⟩
          have hj3 : j = 1 ∨ j = 2 ∨ j = 3 := by omega
          obtain ⟨h1, h2, h3, h4⟩ := rowsT_ok hj3
          have hn3 : nT j ≤ 3 := by rcases hj with rfl | rfl <;> decide
          refine ⟨j, by show [V.int ((1 : Int) + r1)] = _; rw [ej], hj3, fun t0 F0 S0' refs H3 s3 ht0 hF0 hE0 hS0 nS0 nF0 => ?_⟩
          have ta : TabAt H3 t0 (rowsT j) [0] ((1 : Nat) : Int) := ⟨F0, S0', refs, ht0, hF0, ⟨by rw [List.length_map]; exact hE0.1, fun i x r hx hr => by
            rw [List.getElem?_map, Option.map_eq_some_iff] at hr
            obtain ⟨r0, hr, rfl⟩ := hr
            exact hE0.2 i x r0 hx hr⟩, by rw [← natsV_ints]; exact hS0⟩
          refine ⟨t0, rowsT j, [0], 1, 2, rfl, ta, h1, fun x hx => by rw [List.mem_singleton.mp hx]; exact h3, rfl, by omega, by decide, by decide, by decide, fun t' H4 s4 tf => ?_⟩
          have kp := ((kp1.trans kp2).trans (Keep.of (a := a) (l := l) s3)).trans (Keep.of (a := a) (l := l) s4)
          exact kk t' _ _ 2 _ H4 (tf.from S0 ((kp1.trans kp2).trans (Keep.of (a := a) (l := l) s3)) (S2.same s3)) (fam_pow hj) ((S2.same s3).same s4) (by omega) kp
        · rw [decide_eq_false hm1]
          exact iteF ⟨rfl, rfl⟩
      · rw [decide_eq_false (fun z => hk1 (by injection z))]
        exact iteF (iteF ⟨rfl, rfl⟩)
    rintro _ H1' ⟨rfl, h1'⟩
    have h1' := h1'.symm
    subst h1'
    refine ⟨fun σ' H' => ∃ sz : Nat, σ' = [some (.ref a), some (.int (most : Int)), some (.int kd), some (.int (sz : Int)), none, none] ∧ 1 ≤ sz ∧ sz ≤ 4 ∧ StreamAt H' a l (n + 1 + 1) ∧ Keep a l H H', ?_, ?_⟩
    · refine ⟨_, rfl, _, rfl, a, l, _, (most : Int), rfl, S1, by omega, by omega, sm48 (by omega) (by omega), fun r H2 r0 r1 S2 kp2 => ⟨_, _, rfl, rfl, ?_⟩⟩
      have es : (1 : Int) + r = (((1 + r).toNat : Nat) : Int) := by omega
      refine ⟨(1 + r).toNat, ?_, by omega, by omega, S2, kp1.trans kp2⟩
      rw [← es]
      rfl
    rintro _ H2 ⟨sz, rfl, z1, z4, S2, kp2⟩
    refine ⟨_, rfl, (sz : Int), rfl, by omega, by omega, fun Dd hDd => ?_⟩
    obtain ⟨Da, Dl⟩ := S2.ne hDd
    have eD := Same.new (o := .lst []) hDd
    refine lc_range (n := ((sz : Int)).toNat) (fun i H' => StreamAt H' a l (n + 1 + 1 + 2 * i) ∧ Keep a l H2 H' ∧ ∃ acc ws, H' Dd = some (.lst acc) ∧ Ea H' isWd acc ws ∧ ws.length = i ∧ ∀ w ∈ ws, w.1 < sz) ?_ ?_ ?_
    · exact ⟨S2.same eD, Keep.of eD, [], [], upd_same, Ea.nil, rfl, fun w hw => (List.not_mem_nil hw).elim⟩
    · rintro i H3 hi ⟨S3, kp3, acc, ws, hd, he, hl, hw⟩
      have hi : i < sz := hi
      refine ⟨rfl, ?_⟩
      dsimp only [tYes]
      rw [if_pos rfl]
      refine ⟨_, rfl, _, rfl, a, l, _, (sz : Int), rfl, S3, by omega, by omega, sm48 (by omega) (by omega), fun v H4 v0 v1 S4 kp4 => ?_⟩
      refine ⟨_, rfl, by show 4 ≤ sizeLine; decide, fun L hL => ?_⟩
      obtain ⟨La, Ll⟩ := S4.ne hL
      have eL := Same.new (o := .lst [V.str (mvS 0), .str (mvS 0), .str (mvS 1), .str (mvS 2)]) hL
      refine ⟨a, l, L, _, [V.str (mvS 0), .str (mvS 0), .str (mvS 1), .str (mvS 2)], rfl, S4.same eL, by omega, upd_same, La, Ll, by decide, by decide, fun ix x H5 hx S5 kp5 => ?_⟩
      obtain ⟨mv, rfl⟩ : ∃ mv : Nat, x = V.str (mvS mv) := by
        match ix, hx with
        | 0, hx => cases hx; exact ⟨0, rfl⟩
        | 1, hx => cases hx; exact ⟨0, rfl⟩
        | 2, hx => cases hx; exact ⟨1, rfl⟩
        | 3, hx => cases hx; exact ⟨2, rfl⟩
        | ix + 4, hx => simp at hx
      obtain ⟨v, rfl⟩ : ∃ v' : Nat, v = (v' : Int) := ⟨v.toNat, by omega⟩
      refine ⟨by show 2 ≤ sizeLine; decide, fun t1 ht1 => ?_⟩
      have e1 := Same.new (o := .tup [V.int (v : Int), .str (mvS mv)]) ht1
      have g1 : isWd (upd H5 t1 (.tup [V.int (v : Int), .str (mvS mv)])) t1 (v, mv) := upd_same
      have kp35 := (kp4.trans (Keep.of (a := a) (l := l) eL)).trans kp5
      have hd5 := e1 _ _ (kp35 _ _ Da Dl hd)
      have he5 : Ea (upd H5 t1 (.tup [V.int (v : Int), .str (mvS mv)])) isWd acc ws := he.imp fun c r q => e1 _ _ (keep_tup S3 kp35 q)
      have S6 := S5.same e1
      have kp6 := (kp3.trans kp35).trans (Keep.of (a := a) (l := l) e1)
      generalize (upd H5 t1 (.tup [V.int (v : Int), .str (mvS mv)])) = H6 at e1 g1 hd5 he5 S6 kp6 ⊢
      refine ⟨acc, hd5, ?_, (S6.lst hd5 Da Dl).at_ (by omega), keep_updB kp6 hDd, acc ++ [.ref t1], ws ++ [(v, mv)], upd_same, ?_, by rw [List.length_append, hl]; rfl, fun w hw' => ?_⟩
      · rw [he.1, hl]
        exact Nat.lt_of_lt_of_le (by omega : i < 16) (by decide)
      · have mvv : ∀ c r, isWd H6 c r → isWd (upd H6 Dd (.lst (acc ++ [.ref t1]))) c r := fun c r q => q.lst hd5
        exact Ea.push (he5.imp mvv) (mvv _ _ g1)
      · rcases List.mem_append.mp hw' with h | h
        · exact hw w h
        · rw [List.mem_singleton.mp h]
          show v < sz
          omega
    · rintro H3 ⟨S3, kp3, acc, ws, hd, he, hl, hw⟩
      have hl : ws.length = sz := hl
      have S3 : StreamAt H3 a l (n + 1 + 1 + 2 * sz) := S3
      have hwa : ∀ x, x < sz → (wAt ws x).1 < sz := fun x hx => by
        have e : ws[x]? = some ws[x] := List.getElem?_eq_getElem (by omega)
        unfold RG3.wAt
        rw [List.getD_eq_getElem?_getD, e]
        exact hw _ (List.getElem_mem _)
      refine ⟨_, rfl, Dd, acc, ws, sz, rfl, hd, he, hl, z1, z4, hwa, fun t' H4 s4 tf => ?_⟩
      have kp := (kp2.trans kp3).trans (Keep.of (a := a) (l := l) s4)
      exact kk t' _ _ sz _ H4 (tf.from S0 (kp2.trans kp3) S3) (fam_mk z1 z4 hwa) (S3.same s4) (by omega) kp
end
end PA

set_option maxHeartbeats 8000000
namespace PA
open PySem L2 RZ
open C8 (pss_cut tCut)
open RG3 (Pg Nd nd root calls prs movG begG mem_prs NoR tri ringN ringSys Res Rch)
abbrev sLaw : Stmt := top 63
abbrev NLaw : List Str := ["_law_script", "_law_stream", "_law_kind", "_law_table", "_law_rule", "_law_found", "_law_marks", "_law_pairs", "_law_case", "_law_k"]
def DfX (K : PySem.W.Frag) (mg : Str → Option Value) (n : Str) (st : Stmt) (ps : List Str) : Prop := ∃ f fd, Df K mg n st f fd ps
structure Prog (K : PySem.W.Frag) (mg : Str → Option Value) (C : Addr) : Prop where
  T : Txt K mg C
  TP : TxtP mg K
  Ts : mg "sorted" = none
  Td : mg "dict" = none
  I : ∃ fI dI dd, FunI K fI dI dd ∧ Mk K C fI ∧ Binds K dI ["self", "rows", "starts"] []
  St : ∃ f fd, Fun K "step" "Rule.step" sStep f fd ∧ Binds K fd ["self", "state", "behind"] [] ∧ Meth K C "step" f
  D1 : DfX K mg "is_integer" sIsInt ["value"]
  D2 : DfX K mg "is_below" sBelow ["value", "count"]
  D3 : DfX K mg "_is_row" sIsRow ["row", "count"]
  D4 : DfX K mg "_check_table" sCheck ["rows", "starts"]
  draw : DfX K mg "_law_draw" sDraw ["_law_stream", "_law_many"]
  start : DfX K mg "_law_start" sStart ["_law_script"]
  pick : DfX K mg "_law_pick" sPick ["_law_stream", "_law_some"]
  mixed : DfX K mg "_law_mixed" sMixed ["_law_stream", "_law_some"]
  ppw : DfX K mg "_law_p_power" sPP ["_law_table", "_law_k"]
  pmk : DfX K mg "_law_p_marked" sMk ["_law_words"]
  jth : DfX K mg "_law_p_jth" sJth ["_law_word", "_law_sign", "_law_j"]
  plast : DfX K mg "_law_p_last" sPLast ["_law_j"]
  pru : DfX K mg "_law_p_rule" sRu ["_law_stream", "_law_most"]
  tab : DfX K mg "_law_m_table" sTable ["_law_stream", "_law_most", "_law_marks"]
  cal : DfX K mg "_law_m_calls" sCalls ["_law_stream", "_law_cases", "_law_most"]
  beg : DfX K mg "_law_begun" sBegP ["_law_rule", "_law_marks"]
  movd : DfX K mg "_law_moved" sMovP ["_law_rule", "_law_pairs", "_law_case"]
  line : DfX K mg "_law_line" sLine ["_law_pairs", "_law_many"]
  inn : DfX K mg "_law_ring_in" sIn ["_law_stream", "_law_rule", "_law_found"]
  ring : DfX K mg "ring" sRing ["rule"]
  tri : DfX K mg "_mark_triples" sTriples ["marks"]
  first : DfX K mg "_first_states" sFirst ["starts", "marks", "triple"]
  after : DfX K mg "_after" sAfter ["rows", "states", "place"]
  called : DfX K mg "_called" sCalled ["row", "behind"]
  moved : DfX K mg "_moved" sMovedC ["cases", "case", "place"]
  way : DfX K mg "way_to" sWay ["entries", "at"]
  LF : ∃ f1 f2 f3 f4 f5 f6 f7 d1 d2 d3 d4 d5 d6 d7, LibF K mg f1 f2 f3 f4 f5 f6 f7 d1 d2 d3 d4 d5 d6 d7
def spLaw (K : PySem.W.Frag) : Sp := fun vs H Q _ => ∃ (a : Addr) (ns : List Int), vs = [.ref a] ∧ SqL K H a (ns.map V.int) ∧ ns.length ≤ 63 ∧ ∀ H', Q (.bl true) H'
theorem Good.nat {rows : List Rw} {starts : List Int} {k : Int} (g : Good rows starts k) : ∃ rn st, rows = rn.map rz ∧ starts = stZ st ∧ GoodN rn st k := by
  have e1 : rows = (rows.map fun r => ((r.1.toNat, r.2.1, r.2.2.1.toNat, r.2.2.2) : Rn)).map rz := by
    rw [List.map_map]
    refine (List.map_id rows).symm.trans (List.map_congr_left fun r hr => ?_)
    obtain ⟨⟨h1, _⟩, h2, _⟩ := g.ok r hr
    obtain ⟨ra, rb, rc, rd⟩ := r
    show (ra, rb, rc, rd) = (((ra.toNat : Nat) : Int), rb, ((rc.toNat : Nat) : Int), rd)
    rw [Int.toNat_of_nonneg h1, Int.toNat_of_nonneg h2]
  have e2 : starts = stZ (starts.map Int.toNat) := by
    unfold stZ
    rw [List.map_map]
    refine (List.map_id starts).symm.trans (List.map_congr_left fun s hs => ?_)
    show s = ((s.toNat : Nat) : Int)
    rw [Int.toNat_of_nonneg (g.st s hs).1]
  refine ⟨_, _, e1, e2, fun r hr => ?_, fun x hx => ?_, by rw [List.length_map]; exact g.most, by rw [List.length_map]; exact g.root⟩
  · obtain ⟨z, hz, rfl⟩ := List.mem_map.mp hr
    obtain ⟨⟨h1, h2⟩, h3, h4⟩ := g.ok z hz
    rw [List.length_map]
    constructor
    · show z.1.toNat < _
      omega
    · show z.2.2.1.toNat < _
      omega
  · obtain ⟨s, hs, rfl⟩ := List.mem_map.mp hx
    have := g.st s hs
    rw [List.length_map]
    omega
theorem root_k4 {n k : Int} (h : Root n k) : 1 ≤ k ∧ k ≤ 4 := by cases h <;> decide
section
variable {P : Program} {w : World} {K : PySem.W.Frag} {mg : Str → Option Value} {base : Heap} {C : Addr}
theorem scLaw : FnScope NLaw ["_law_script"] (defScope sLaw) := ⟨rfl, rfl, rfl, by decide +kernel, rfl, by decide +kernel, by decide +kernel⟩
theorem ok_law {f : Addr} {fd : FuncData} (F : Fun K "law" "law" sLaw f fd) (G : Prog K mg C) : FnOk P w K mg base CX0 8 f fd ["_law_script"] (spLaw K) := by
  have T := G.T
  obtain ⟨fI, dI, dd, hI, hM, b2⟩ := G.I
  obtain ⟨fS, dS, FS, bS, mS⟩ := G.St
  obtain ⟨g1, gd1, D1⟩ := G.D1
  obtain ⟨g2, gd2, D2⟩ := G.D2
  obtain ⟨g3, gd3, D3⟩ := G.D3
  obtain ⟨g4_, gd4, D4⟩ := G.D4
  obtain ⟨fDr, dDr, Ddraw⟩ := G.draw
  obtain ⟨fSt, dSt, Dstart⟩ := G.start
  obtain ⟨fPi, dPi, Dpick⟩ := G.pick
  obtain ⟨fMi, dMi, Dmixed⟩ := G.mixed
  obtain ⟨fPp, dPp, Dppw⟩ := G.ppw
  obtain ⟨fMk, dMk, Dpmk⟩ := G.pmk
  obtain ⟨fJ, dJ, Djth⟩ := G.jth
  obtain ⟨fP, dP, Dplast⟩ := G.plast
  obtain ⟨fRu, dRu, Dru⟩ := G.pru
  obtain ⟨fTa, dTa, Dtab⟩ := G.tab
  obtain ⟨fCa, dCa, Dcal⟩ := G.cal
  obtain ⟨fBe, dBe, Dbeg⟩ := G.beg
  obtain ⟨fMv, dMv, Dmvd⟩ := G.movd
  obtain ⟨fLi, dLi, Dline⟩ := G.line
  obtain ⟨fIn, dIn, Din⟩ := G.inn
  obtain ⟨fR, dR, Dring⟩ := G.ring
  obtain ⟨fT, dT, Dtri⟩ := G.tri
  obtain ⟨fF, dF, Dfirst⟩ := G.first
  obtain ⟨fA, dA, Dafter⟩ := G.after
  obtain ⟨fC, dC, Dcalled⟩ := G.called
  obtain ⟨fM, dM, Dmoved⟩ := G.moved
  obtain ⟨fW, dW, Dway⟩ := G.way
  obtain ⟨f1, f2, f3, f4, f5, f6, f7, d1, d2, d3, d4, d5, d6, d7, L⟩ := G.LF
  have GI : FnOk P w K mg base CX0 5 fI dI ["self", "rows", "starts"] (spInit K C) := ok_init hI T D1 D2 D3 D4
  have GDraw : FnOk P w K mg base CX0 1 fDr dDr ["_law_stream", "_law_many"] spDraw := ok_draw Ddraw.F T
  have GStart : FnOk P w K mg base CX0 1 fSt dSt ["_law_script"] (spStart K) := ok_start Dstart.F T
  have GTab : FnOk P w K mg base CX0 2 fTa dTa ["_law_stream", "_law_most", "_law_marks"] spTable := ok_table Dtab.F T Ddraw
  have GRu : FnOk P w K mg base CX0 3 fRu dRu ["_law_stream", "_law_most"] spRu := ok_ru Dru.F T Ddraw Dpick Dplast Djth Dppw Dpmk
  have GRing : FnOk P w K mg base CX0 5 fR dR ["rule"] (spRing K C) := ok_ring Dring.F T G.TP L Dtri Dfirst Dafter Dcalled Dmoved Dway
  have GCa : FnOk P w K mg base CX0 2 fCa dCa ["_law_stream", "_law_cases", "_law_most"] spCalls := ok_calls Dcal.F T Ddraw
  have GBe : FnOk P w K mg base CX0 1 fBe dBe ["_law_rule", "_law_marks"] (spBegP K C) := ok_begP Dbeg.F T G.Td
  have GMv : FnOk P w K mg base CX0 2 fMv dMv ["_law_rule", "_law_pairs", "_law_case"] (spMovP K C) := ok_movP Dmvd.F T FS mS bS
  have GLi : FnOk P w K mg base CX0 1 fLi dLi ["_law_pairs", "_law_many"] spLine := ok_line Dline.F T G.Ts
  have GIn : FnOk P w K mg base CX0 3 fIn dIn ["_law_stream", "_law_rule", "_law_found"] (spIn K C) := ok_in Din.F T G.Ts G.Td Ddraw Dpick Dmixed Dbeg Dmvd Dline FS mS bS
  refine F.ok scLaw (fun vs H Q E h => ?_) (fun cdv A0 outer s H vs Q E hr h => ?_)
  · obtain ⟨a, ns, rfl, _⟩ := h
    rfl
  · obtain ⟨a, ns, rfl, hS, hlen, kk⟩ := h
    have hr1 : Room 1 _ := hr.mono (by decide)
    have hr2 : Room 2 _ := hr.mono (by decide)
    have hr3 : Room 3 _ := hr.mono (by decide)
    have hr5 : Room 5 _ := hr.mono (by decide)
    have hr6 : Room 6 _ := hr.mono (by decide)
    refine ⟨_, pss_cons (ps_set (i := 1) scLaw.nd rfl (Or.inr rfl) (pe_call GStart hr1 rfl Dstart.M Dstart.F.kp Dstart.B .nil pass0 (pa_cons (pv 0) pa_nil)))
      (pss_cons (ps_set (i := 2) scLaw.nd rfl (Or.inl rfl) (pe_call GDraw hr1 rfl Ddraw.M Ddraw.F.kp Ddraw.B .nil pass0 (pa_cons (pv 1) (pa_cons pe_int pa_nil))))
      (pss_cons (ps_set (i := 3) scLaw.nd rfl (Or.inr rfl) (pe_call GRu hr3 rfl Dru.M Dru.F.kp Dru.B .nil pass0 (pa_cons (pv 1) (pa_cons pe_int pa_nil))))
      (pss_cut (ps_if (pt_cmpR op_lt (pv 2) pe_int (nomark _)) (pss_one (ps_set (i := 3) scLaw.nd rfl (Or.inr rfl) (pe_call GTab hr2 rfl Dtab.M Dtab.F.kp Dtab.B .nil pass0 (pa_cons (pv 1) (pa_cons (pe_op op_sub pe_int (pv 2)) (pa_cons (pe_op op_add pe_int (pe_op op_mul pe_int (pv 2))) pa_nil)))))) pss_nil)
      (pss_cons (ps_set (i := 4) scLaw.nd rfl (Or.inl rfl) (pe_make (E := E0) hM GI hr6 rfl T.mgC b2 .nil pass0 (pa_cons (pe_ix ix_tup (pv 3) pe_int (fun _ _ => rfl)) (pa_cons (pe_ix ix_tup (pv 3) pe_int (fun _ _ => rfl)) pa_nil))))
      (pss_cons (ps_set (i := 5) scLaw.nd rfl (Or.inl rfl) (pe_call GRing hr5 rfl Dring.M Dring.F.kp Dring.B .nil pass0 (pa_cons (pv 4) pa_nil)))
      (pss_cons (ps_if (pt_cmpR op_notN (pv 5) pe_non (nomark _)) (pss_one (ps_ret (pe_call GIn hr3 rfl Din.M Din.F.kp Din.B .nil pass0 (pa_cons (pv 1) (pa_cons (pv 4) (pa_cons (pv 5) pa_nil)))))) pss_nil)
      (pss_cut (ps_setLc (i := 6) (own := [("_law_k", 9)]) (g := gName 9) (tt := tYes) (by rfl) scLaw.nd rfl rfl (sw_true rfl rfl rfl (by decide +kernel)) (pi_range1 (by rfl) T.range_ (pa_cons (pe_op op_add pe_int (pe_call GDraw hr1 rfl Ddraw.M Ddraw.F.kp Ddraw.B .nil pass0 (pa_cons (pv 1) (pa_cons pe_int pa_nil)))) pa_nil)) (blkOk_by (N := NLaw) (sc := defScope sLaw) (by decide +kernel))
        (fun _ _ _ _ _ => pg_name (i := 9) scLaw.nd rfl (Or.inl rfl)) (fun _ _ _ _ _ => pts_nil) (fun _ _ _ _ _ => pe_call GDraw hr1 rfl Ddraw.M Ddraw.F.kp Ddraw.B .nil pass0 (pa_cons (pv 1) (pa_cons (pe_ix (ix_tupK (K := K) rfl) (pv 3) pe_int (fun _ _ => rfl)) pa_nil))))
      (pss_cons (ps_set (i := 7) scLaw.nd rfl (Or.inl rfl) (pe_call GBe hr1 rfl Dbeg.M Dbeg.F.kp Dbeg.B .nil pass0 (pa_cons (pv 4) (pa_cons (pv 6) pa_nil))))
      (pss_cut (ps_for PassesOwn.never rfl (pi_list (pe_call GCa hr2 rfl Dcal.M Dcal.F.kp Dcal.B .nil pass0 (pa_cons (pv 1) (pa_cons (pe_callB call_len_seq (by rfl) T.len_ PySem.boot_len (pa_cons (pv 6) pa_nil)) (pa_cons pe_int pa_nil))))) (pg_name (i := 8) scLaw.nd rfl (Or.inl rfl))
        (pss_cons (ps_set (i := 7) scLaw.nd rfl (Or.inl rfl) (pe_call GMv hr2 rfl Dmvd.M Dmvd.F.kp Dmvd.B .nil pass0 (pa_cons (pv 4) (pa_cons (pv 7) (pa_cons (pv 8) pa_nil)))))
        (pss_one (ps_if (pt_not (pt_val (pe_call GLi hr1 rfl Dline.M Dline.F.kp Dline.B .nil pass0 (pa_cons (pv 7) (pa_cons (pe_callB call_len_seq (by rfl) T.len_ PySem.boot_len (pa_cons (pv 6) pa_nil)) pa_nil))))) pss_never pss_nil))))
      (pss_one (ps_ret (pe_call GLi hr1 rfl Dline.M Dline.F.kp Dline.B .nil pass0 (pa_cons (pv 7) (pa_cons (pe_callB call_len_seq (by rfl) T.len_ PySem.boot_len (pa_cons (pv 6) pa_nil)) pa_nil)))))))))))))), ?_⟩
    refine ⟨_, rfl, a, ns, rfl, hS, hlen, fun sa sl H1 S1 _ _ _ => ?_⟩
    refine ⟨_, rfl, sa, sl, 0, 4, rfl, S1, by decide, by decide, sm48 (by decide) (by decide), fun v H2 v0 v1 S2 k2 => ?_⟩
    refine ⟨_, rfl, sa, sl, 1, 4, rfl, S2, by decide, by decide, by decide, fun t A st m n3 H3 tf fam S3 hn3 k3 => ?_⟩
    refine ⟨fun σ' H' => ∃ (t R Sd : Addr) (refs : List V) (A : List Rn) (st : List Nat) (m n4 : Nat), σ' = [some (.ref a), some (.ref sa), some (.int v), some (.ref t), none, none, none, none, none, none] ∧ H' t = some (.tup [.ref R, .ref Sd, .int (m : Int)]) ∧ H' R = some (.lst refs) ∧ Each H' isT refs (A.map rz) ∧ H' Sd = some (.lst ((stZ st).map V.int)) ∧ GoodN A st m ∧ A.length ≤ 16 ∧ StreamAt H' sa sl n4 ∧ n4 ≤ 400, ?_, ?_⟩
    · refine ⟨_, rfl, _, _, rfl, rfl, _, rfl, ?_⟩
      by_cases h2 : v < 2
      · refine ite_is (decide_eq_true h2) ?_
        refine ⟨_, rfl, _, rfl, _, _, rfl, rfl, _, rfl, _, _, rfl, rfl, .inl ⟨by decide, by decide⟩, _, _, rfl, rfl, sa, sl, n3, 3 - v, 2 + 2 * v, rfl, S3, by omega, by omega, by omega, by omega, by omega, fun t2 R2 Sd2 refs2 rows starts kk2 n5 H5 ht5 hR5 hE5 hSt5 gd hln hkm S5 hn5 k5 Ra Rl Sa Sl _ _ => ?_⟩
        obtain ⟨rn, st2, rfl, rfl, gn⟩ := gd.nat
        have hm2' := root_k4 gn.root
        obtain ⟨m2, rfl⟩ : ∃ m2 : Nat, kk2 = (m2 : Int) := ⟨kk2.toNat, by omega⟩
        rw [List.length_map] at hln
        exact ⟨t2, R2, Sd2, refs2, rn, st2, m2, n5, rfl, ht5, hR5, hE5, hSt5, gn, by omega, S5, by omega⟩
      · refine ite_no (decide_eq_false h2) ?_
        obtain ⟨R, Sd, refs, nR, nSd, ht, hR, hE, hSd⟩ := tf
        exact ⟨t, R, Sd, refs, A, st, m, n3, rfl, ht, hR, hE, hSd, fam.g, fam.l16, S3, by omega⟩
    clear tf fam S3 hn3 k3 t A st m n3
    rintro _ H4 ⟨t, R, Sd, refs, A, st, m, n4, rfl, ht, hR, hE, hSd, gn, l16, S4, hn4⟩
    have hm14 := root_k4 gn.root
    have hsq := root_sq gn.root
    have hst : st.length = m * m := by
      have : ((st.length : Nat) : Int) = ((m * m : Nat) : Int) := by rw [hsq]; simp
      exact Int.ofNat.inj this
    have hm : 0 < m := by omega
    have hA : 0 < A.length := by
      have l0 : 0 < st.length := by rw [hst]; exact Nat.mul_pos hm hm
      exact Nat.lt_of_le_of_lt (Nat.zero_le _) (gn.so _ (List.getElem_mem l0))
    refine ⟨_, rfl, t, _, 0, _, rfl, rfl, SqT.of ht, rfl, _, rfl, t, _, 1, _, rfl, rfl, SqT.of ht, rfl, fun y dy ny ndy ney => mk_rule (G := R) (S := Sd) (refs := refs) (.inl (SqL.of hR)) (hE.imp fun c r q => .inl q) (.inl (SqL.of hSd)) gn.good ny ndy ney fun H5 s5 r5 => ⟨rfl, ?_⟩⟩
    have r5 : RuleZ K C H5 y A st (m : Int) := r5
    have S5 := S4.same s5
    refine ⟨_, rfl, y, A, st, m, gn.ok, hm, rfl, r5, gn.so, hst, by omega, by omega, fun o fv H6 s6 hres hfew hv => ?_⟩
    have S6 := S5.same s6
    have r6 : RuleZ K C H6 y A st (m : Int) := RuleAt.same r5 s6
    have ht6 := s6 _ _ (s5 _ _ ht)
    cases o with
    | some ec =>
      obtain ⟨e, c⟩ := ec
      obtain ⟨tt, u, cc, rfl, h1, h2, h3⟩ := hv
      refine ⟨_, rfl, rfl, _, rfl, ite_is (by simp) ?_⟩
      refine ⟨_, rfl, _, rfl, _, rfl, sa, sl, y, tt, u, cc, n4, A, st, m, gn.ok, hm, e, c, rfl, S6, by omega, r6, gn.so, hA, hst, by omega, hres, hfew e c rfl, h1, h2, h3, fun H' => kk H'⟩
    | none =>
      have hv : fv = V.non := hv
      subst hv
      refine ⟨_, rfl, rfl, _, rfl, ite_no (by decide) ?_⟩
      refine ⟨fun σ' H' => ∃ (M : Addr) (ms : List Nat) (n7 : Nat), σ' = [some (.ref a), some (.ref sa), some (.int v), some (.ref t), some (.ref y), some .non, some (.ref M), none, none, none] ∧ H' M = some (.lst (natsV ms)) ∧ 3 ≤ ms.length ∧ ms.length ≤ 9 ∧ (∀ i, i < ms.length → ms.getD i 0 < m) ∧ M ≠ sa ∧ M ≠ sl ∧ StreamAt H' sa sl n7 ∧ n7 ≤ 500 ∧ Keep sa sl H6 H', ?_, ?_⟩
      · refine ⟨_, rfl, sa, sl, n4, 7, rfl, S6, by omega, by decide, sm48 (by decide) (by decide), fun w' H7 w0 w1 S7 k7 => ⟨_, _, rfl, rfl, _, rfl, by omega, by omega, fun Dd hD => ?_⟩⟩
        obtain ⟨N, hN, N3, N9⟩ : ∃ N : Nat, 3 + w' = (N : Int) ∧ 3 ≤ N ∧ N ≤ 9 := ⟨(3 + w').toNat, by omega, by omega, by omega⟩
        obtain ⟨Da, Db⟩ := S7.ne hD
        refine lc_range (n := (3 + w').toNat) (fun i H' => StreamAt H' sa sl (n4 + 1 + i) ∧ Keep sa sl H7 H' ∧ ∃ ms : List Nat, H' Dd = some (.lst (natsV ms)) ∧ ms.length = i ∧ ∀ z ∈ ms, z < m) ?_ ?_ ?_
        · exact ⟨S7.same (Same.new hD), Keep.of (Same.new hD), [], upd_same, rfl, fun z hz => by cases hz⟩
        · rintro i H8 hi ⟨S8, k8, ms, hd, hl, hz⟩
          rw [hN, Int.toNat_natCast] at hi
          have ht8 := keep_tup S6 (k7.trans k8) ht6
          refine ⟨rfl, ?_⟩
          dsimp only [tYes]
          rw [if_pos rfl]
          refine ⟨_, rfl, _, rfl, t, _, 2, .int (m : Int), rfl, rfl, SqT.of ht8, rfl, sa, sl, _, _, rfl, S8, by omega, by omega, sm48 (by omega) (by omega), fun x H9 x0 x1 S9 k9 => ?_⟩
          have hd9 := k9 _ _ Da Db hd
          obtain ⟨x', rfl⟩ : ∃ x' : Nat, x = (x' : Int) := ⟨x.toNat, by omega⟩
          refine ⟨_, hd9, ?_, ?_, ?_, ms ++ [x'], ?_, ?_, ?_⟩
          · unfold natsV
            rw [List.length_map, hl]
            exact Nat.lt_of_lt_of_le (by omega : i < 10) (by decide)
          · exact S9.lst hd9 Da Db
          · intro b o ba bl e
            rw [upd_ne (ne_of_none e hD)]
            exact k9 _ _ ba bl (k8 _ _ ba bl e)
          · rw [upd_same, natsV_snoc]
          · rw [List.length_append, hl]
            rfl
          · intro z hz'
            rcases List.mem_append.mp hz' with hz' | hz'
            · exact hz z hz'
            · rw [List.mem_singleton.mp hz']
              omega
        · rintro H8 ⟨S8, k8, ms, hd, hl, hz⟩
          rw [hN, Int.toNat_natCast] at hl S8
          refine ⟨Dd, ms, _, rfl, hd, by omega, by omega, fun i hi => ?_, Da, Db, S8, by omega, k7.trans k8⟩
          rw [List.getD_eq_getElem?_getD, List.getElem?_eq_getElem hi]
          exact hz _ (List.getElem_mem _)
      · rintro _ H7 ⟨M, ms, n7, rfl, hM7, N3, N9, hms, Ma, Mb, S7, hn7, k7⟩
        have r7 : RuleZ K C H7 y A st (m : Int) := RuleAt.kr r6 (KeepR.of S6 k7)
        have ll : (natsV ms).length = ms.length := List.length_map _
        refine ⟨_, rfl, _, rfl, y, M, A, st, m, ms, rfl, r7, hM7, N9, hms, hst, by omega, fun d H8 s8 dn pd => ?_⟩
        have S8 := S7.same s8
        have r8 : RuleZ K C H8 y A st (m : Int) := RuleAt.same r7 s8
        have hM8 := s8 _ _ hM7
        have rc0 : Rch (ringSys A st m gn.ok hm) (begG st m ms) ms.length := Rch.beg hms
        refine ⟨fun σ' H' => ∃ (x8 : Option V) (d : Addr) (g : Pg), σ' = [some (.ref a), some (.ref sa), some (.int v), some (.ref t), some (.ref y), some .non, some (.ref M), some (.ref d), x8, none] ∧ PD H' d ms.length g ∧ Rch (ringSys A st m gn.ok hm) g ms.length ∧ H' M = some (.lst (natsV ms)), ?_, ?_⟩
        · refine ⟨_, rfl, _, rfl, M, _, rfl, .inl (SqL.of hM8), sa, sl, n7, _, 30, rfl, S8, by omega, by omega, by omega, by decide, by decide, fun tc cs n9 H9 htc hcs _ tca tcb _ S9 hn9 k9 => ⟨tc, rfl, ⟨_, SqL.of htc⟩, ?_⟩⟩
          have r9 : RuleZ K C H9 y A st (m : Int) := RuleAt.kr r8 (KeepR.of S8 k9)
          have hM9 := k9 _ _ Ma Mb hM8
          refine for_it (walk_l (xs := cs.map V.int)) (fun i σ' H' => ∃ (x8 : Option V) (d : Addr) (g : Pg), σ' = [some (.ref a), some (.ref sa), some (.int v), some (.ref t), some (.ref y), some .non, some (.ref M), some (.ref d), x8, none] ∧ Same H9 H' ∧ PD H' d ms.length g ∧ (∀ p, (g p).1 < A.length) ∧ Rch (ringSys A st m gn.ok hm) g ms.length) ?_ ?_ ?_ ?_
          · exact ⟨_, d, begG st m ms, rfl, fun _ _ e => e, pd.kr (KeepR.of S8 k9), RG3.beg_lt gn.so hA ms, rc0⟩
          · rintro i _ H' _ ⟨x8, d, g, rfl, sj, _⟩
            exact SqL.of (sj _ _ htc)
          · rintro i xv _ H10 H' hi ⟨x8, d, g, rfl, sj, pdc, gb, rc⟩ ⟨rfl, hx⟩
            rw [List.getElem?_map] at hx
            obtain ⟨ci, hci, rfl⟩ := Option.map_eq_some_iff.mp hx
            obtain ⟨c0, c1⟩ := hcs ci (List.mem_of_getElem? hci)
            obtain ⟨cn, rfl⟩ : ∃ cn : Nat, ci = (cn : Int) := ⟨ci.toNat, by omega⟩
            refine ⟨_, rfl, _, rfl, _, rfl, y, d, cn, A, st, m, ms.length, g, rfl, RuleAt.same r9 sj, gb, N9, pdc, fun d' H11 s11 dn' pd' => ?_⟩
            have rc' := rc.mov (A := A) (st := st) (m := m) (ok := gn.ok) (hm := hm) cn
            have s911 := sj.trans s11
            refine ⟨_, rfl, _, rfl, M, _, rfl, .inl (SqL.of (s911 _ _ hM9)), d', ms.length, movG A g cn, by show [V.ref d', V.int (((natsV ms).length : Nat) : Int)] = _; rw [ll], N9, pd', fun b H12 s12 hyes _ => ?_⟩
            have hb : b = true := hyes (rc'.nor hres)
            subst hb
            refine ⟨true, rfl, ite_no (by decide) ?_⟩
            exact ⟨_, d', _, rfl, s911.trans s12, pd'.same s12, RG3.mov_lt gn.ok gb cn, rc'⟩
          · rintro _ H' ⟨x8, d, g, rfl, sj, pdc, gb, rc⟩
            exact ⟨x8, d, g, rfl, pdc, rc, sj _ _ hM9⟩
        · rintro _ H9 ⟨x8, d, g, rfl, pd9, rc, hM9⟩
          refine ⟨_, rfl, _, rfl, M, _, rfl, .inl (SqL.of hM9), d, ms.length, g, by show [V.ref d, V.int (((natsV ms).length : Nat) : Int)] = _; rw [ll], N9, pd9, fun b H10 s10 hyes _ => ?_⟩
          have hb : b = true := hyes (rc.nor hres)
          subst hb
          exact kk H10
end
end PA

set_option maxHeartbeats 8000000
namespace PA
open PySem L2 RZ
theorem kit_self {K : PySem.W.Frag} {C : Addr} : PySem.W.kitOne K (.ref C) (.ref C) = some true := by
  unfold PySem.W.kitOne
  rw [if_pos (by simp)]
theorem kit_2 {K : PySem.W.Frag} {C D : Addr} (h1 : (Value.ref D == Value.ref C) = false) (h2 : PySem.W.isClsIn K C = true) (h3 : PySem.W.typeIn K (.ref C) = some (.type "type")) (h4 : PySem.W.subIn K (.ref D) (.ref C) = some false) : PySem.W.kitOne K (.ref D) (.ref C) = some false := by
  have e2 : ((PySem.W.clsIn K C).isSome && PySem.W.typeIn K (.ref C) == some (.type "type")) = true := by
    have h2' : (PySem.W.clsIn K C).isSome = true := h2
    rw [h2', h3] <;> rfl
  unfold PySem.W.kitOne
  rw [h1, if_neg (by simp)]
  show (if ((PySem.W.clsIn K C).isSome && PySem.W.typeIn K (.ref C) == some (.type "type")) = true then PySem.W.subIn K (.ref D) (.ref C) else none) = some false
  rw [if_pos e2]
  exact h4
theorem exm_2 {K : PySem.W.Frag} {S P : Addr} (h1 : PySem.W.subIn K (.ref P) (.type "BaseException") = some true) (h2 : PySem.W.isClsIn K P = true) (h3 : PySem.W.typeIn K (.ref P) = some (.type "type")) (h4 : PySem.W.subIn K (.ref S) (.ref P) = some true) :
    PySem.W.exmOne K (.ref S) (.ref P) = some true := by
  have e2 : ((PySem.W.clsIn K P).isSome && PySem.W.typeIn K (.ref P) == some (.type "type")) = true := by
    have h2' : (PySem.W.clsIn K P).isSome = true := h2
    rw [h2', h3] <;> rfl
  unfold PySem.W.exmOne
  rw [h1, if_pos (by simp)]
  show (if ((PySem.W.clsIn K P).isSome && PySem.W.typeIn K (.ref P) == some (.type "type")) = true then PySem.W.subIn K (.ref S) (.ref P) else none) = some true
  rw [if_pos e2]
  exact h4
theorem kit_cls {K : PySem.W.Frag} {C : Addr} {t : String} (h2 : PySem.W.isClsIn K C = true) (h3 : PySem.W.typeIn K (.ref C) = some (.type "type")) (h4 : PySem.W.subIn K (.type t) (.ref C) = some false) : PySem.W.kitOne K (.type t) (.ref C) = some false := by
  have e2 : ((PySem.W.clsIn K C).isSome && PySem.W.typeIn K (.ref C) == some (.type "type")) = true := by
    have h2' : (PySem.W.clsIn K C).isSome = true := h2
    rw [h2', h3] <;> rfl
  unfold PySem.W.kitOne
  rw [if_neg (by simp)]
  show (if ((PySem.W.clsIn K C).isSome && PySem.W.typeIn K (.ref C) == some (.type "type")) = true then PySem.W.subIn K (.type t) (.ref C) else none) = some false
  rw [if_pos e2]
  exact h4
theorem bI2_of {K : PySem.W.Frag} {f dd : Addr} {fd : FuncData} (F : FunI K f fd dd) : Binds K fd ["self", "rows", "starts"] [] := by
  obtain ⟨ds, hv, hb⟩ := F.binds1 (ps := ["self", "rows", "starts"]) 3 1 (by simp) rfl (fun T kV doc pm an cdv ct us its h1 h2 => match us, h1, its, h2 with | [_, _, _], _, [_], _ => ⟨_, rfl, rfl⟩)
  cases hv
  exact hb
theorem all_mk {l : PySem.W.OpenLaw} {w : World} {K : PySem.W.Frag} {h : Heap} {mg : Str → Option Value} {fa C TT DD gCI DM PD PA0 PA1 PA2 gStp gisInt gbelow gisRow gcheck gdraw gstart gpick gmixed gppw gpmk gjth gplast gpru gtab gcal gbeg gmovd glin ginn gring gtri gfirst gafter gcalled gmoved gway glf1 glf2 glf3 glf4 glf5 glf6 glf7 gLaw : Addr} (X_ : K.In h) (G : h.Ns mainGlobals mg) (hfa : mg "law" = some (.ref fa))
    {oT : Value} {odT : Option Addr} {mT : Nat} {slT : Array (Option Value)} {odD : Option Addr} {tkD : Tok} {mD : Nat} {slD : Array (Option Value)} {ocCI kVCI dcCI pmCI cdCI ctCI : Value} {odCI anCI : Option Addr} {slCI : Array (Option Value)} {x1 x2 x3 x4 y1 y2 y3 y4 : Tok} {nM_ : Nat} {tkM : Tok} {odP0 odP1 odP2 odP3 : Option Addr} {tk1 tk2 tk3 tk4 tk5 tk6 tk7 tk8 tk9 : Tok} {mP0 mP1 mP2 mP3 : Nat} {slP0 slP1 slP2 slP3 : Array (Option Value)} {ocStp kVStp dcStp pmStp cdStp ctStp : Value} {odStp anStp : Option Addr} {slStp : Array (Option Value)} {ocisInt kVisInt dcisInt pmisInt cdisInt ctisInt : Value} {odisInt anisInt : Option Addr} {slisInt : Array (Option Value)} {ocbelow kVbelow dcbelow pmbelow cdbelow ctbelow : Value} {odbelow anbelow : Option Addr} {slbelow : Array (Option Value)} {ocisRow kVisRow dcisRow pmisRow cdisRow ctisRow : Value} {odisRow anisRow : Option Addr} {slisRow : Array (Option Value)} {occheck kVcheck dccheck pmcheck cdcheck ctcheck : Value} {odcheck ancheck : Option Addr} {slcheck : Array (Option Value)} {ocdraw kVdraw dcdraw pmdraw cddraw ctdraw : Value} {oddraw andraw : Option Addr} {sldraw : Array (Option Value)} {ocstart kVstart dcstart pmstart cdstart ctstart : Value} {odstart anstart : Option Addr} {slstart : Array (Option Value)} {ocpick kVpick dcpick pmpick cdpick ctpick : Value} {odpick anpick : Option Addr} {slpick : Array (Option Value)} {ocmixed kVmixed dcmixed pmmixed cdmixed ctmixed : Value} {odmixed anmixed : Option Addr} {slmixed : Array (Option Value)} {ocppw kVppw dcppw pmppw cdppw ctppw : Value} {odppw anppw : Option Addr} {slppw : Array (Option Value)} {ocpmk kVpmk dcpmk pmpmk cdpmk ctpmk : Value} {odpmk anpmk : Option Addr} {slpmk : Array (Option Value)} {ocjth kVjth dcjth pmjth cdjth ctjth : Value} {odjth anjth : Option Addr} {sljth : Array (Option Value)} {ocplast kVplast dcplast pmplast cdplast ctplast : Value} {odplast anplast : Option Addr} {slplast : Array (Option Value)} {ocpru kVpru dcpru pmpru cdpru ctpru : Value} {odpru anpru : Option Addr} {slpru : Array (Option Value)} {octab kVtab dctab pmtab cdtab cttab : Value} {odtab antab : Option Addr} {sltab : Array (Option Value)} {occal kVcal dccal pmcal cdcal ctcal : Value} {odcal ancal : Option Addr} {slcal : Array (Option Value)} {ocbeg kVbeg dcbeg pmbeg cdbeg ctbeg : Value} {odbeg anbeg : Option Addr} {slbeg : Array (Option Value)} {ocmovd kVmovd dcmovd pmmovd cdmovd ctmovd : Value} {odmovd anmovd : Option Addr} {slmovd : Array (Option Value)} {oclin kVlin dclin pmlin cdlin ctlin : Value} {odlin anlin : Option Addr} {sllin : Array (Option Value)} {ocinn kVinn dcinn pminn cdinn ctinn : Value} {odinn aninn : Option Addr} {slinn : Array (Option Value)} {ocring kVring dcring pmring cdring ctring : Value} {odring anring : Option Addr} {slring : Array (Option Value)} {octri kVtri dctri pmtri cdtri cttri : Value} {odtri antri : Option Addr} {sltri : Array (Option Value)} {ocfirst kVfirst dcfirst pmfirst cdfirst ctfirst : Value} {odfirst anfirst : Option Addr} {slfirst : Array (Option Value)} {ocafter kVafter dcafter pmafter cdafter ctafter : Value} {odafter anafter : Option Addr} {slafter : Array (Option Value)} {occalled kVcalled dccalled pmcalled cdcalled ctcalled : Value} {odcalled ancalled : Option Addr} {slcalled : Array (Option Value)} {ocmoved kVmoved dcmoved pmmoved cdmoved ctmoved : Value} {odmoved anmoved : Option Addr} {slmoved : Array (Option Value)} {ocway kVway dcway pmway cdway ctway : Value} {odway anway : Option Addr} {slway : Array (Option Value)} {oclf1 kVlf1 dclf1 pmlf1 cdlf1 ctlf1 : Value} {odlf1 anlf1 : Option Addr} {sllf1 : Array (Option Value)} {oclf2 kVlf2 dclf2 pmlf2 cdlf2 ctlf2 : Value} {odlf2 anlf2 : Option Addr} {sllf2 : Array (Option Value)} {oclf3 kVlf3 dclf3 pmlf3 cdlf3 ctlf3 : Value} {odlf3 anlf3 : Option Addr} {sllf3 : Array (Option Value)} {oclf4 kVlf4 dclf4 pmlf4 cdlf4 ctlf4 : Value} {odlf4 anlf4 : Option Addr} {sllf4 : Array (Option Value)} {oclf5 kVlf5 dclf5 pmlf5 cdlf5 ctlf5 : Value} {odlf5 anlf5 : Option Addr} {sllf5 : Array (Option Value)} {oclf6 kVlf6 dclf6 pmlf6 cdlf6 ctlf6 : Value} {odlf6 anlf6 : Option Addr} {sllf6 : Array (Option Value)} {oclf7 kVlf7 dclf7 pmlf7 cdlf7 ctlf7 : Value} {odlf7 anlf7 : Option Addr} {sllf7 : Array (Option Value)} {ocLaw kVLaw dcLaw pmLaw cdLaw ctLaw : Value} {odLaw anLaw : Option Addr} {slLaw : Array (Option Value)}
    (aC : PySem.W.nsIn K mainGlobals "Rule" = some (some (.ref C)))
    (pgC : PySem.W.plainGet K C Str.empty = true)
    (hdC : PySem.W.hasDictIn K C = true)
    (poC : PySem.W.plainOver K C = true)
    (saC : PySem.W.findIn K (.ref C) "__setattr__" = some (some (.builtin "object.__setattr__")))
    (kcC : PySem.W.keepIn K (.ref C) = true)
    (mkC : PySem.W.makesIn K C = true)
    (nCrows : PySem.W.findIn K (.ref C) "rows" = some none)
    (nCstarts : PySem.W.findIn K (.ref C) "starts" = some none)
    (nCmarks : PySem.W.findIn K (.ref C) "marks" = some none)
    (aCI : PySem.W.findIn K (.ref C) "__init__" = some (some (.ref gCI)))
    (lCI : K.lookup gCI = some ⟨ocCI, odCI, .func (PySem.W.fnOf "__init__" "Rule.__init__" (defArgs sInit) (defBody sInit) (defScope sInit) (.ref TT) kVCI dcCI pmCI anCI cdCI ctCI), slCI⟩)
    (cCI : PySem.W.codeIn K cdCI "Rule.__init__" = true)
    (kCI : PySem.W.keepIn K (.ref gCI) = true)
    (iCI : PySem.W.isFn K (.ref gCI) = true)
    (lT : K.lookup TT = some ⟨oT, odT, .seq #[.ref DD] mT, slT⟩)
    (lD : K.lookup DD = some ⟨.type "tuple", odD, .seq #[.int 0 tkD] mD, slD⟩)
    (aM : PySem.W.nsIn K mainGlobals "MARKS_OF_STARTS" = some (some (.ref DM)))
    (lM : K.lookup DM = some ⟨.type "dict", none, .dict #[⟨1, .int 1 x1, .int 1 y1⟩, ⟨4, .int 4 x2, .int 2 y2⟩, ⟨9, .int 9 x3, .int 3 y3⟩, ⟨16, .int 16 x4, .int 4 y4⟩] nM_, #[]⟩)
    (lw : (DM == sysModules) = false)
    (aMost : PySem.W.nsIn K mainGlobals "MOST_ROWS" = some (some (.int 48 tkM)))
    (aPD : PySem.W.nsIn K mainGlobals "PAIRS_OF_PLACES" = some (some (.ref PD)))
    (lPD : K.lookup PD = some ⟨.type "tuple", odP0, .seq #[.ref PA0, .ref PA1, .ref PA2] mP0, slP0⟩)
    (lPA0 : K.lookup PA0 = some ⟨.type "tuple", odP1, .seq #[.int 0 tk1, .int 1 tk2, .int 2 tk3] mP1, slP1⟩)
    (lPA1 : K.lookup PA1 = some ⟨.type "tuple", odP2, .seq #[.int 0 tk4, .int 2 tk5, .int 1 tk6] mP2, slP2⟩)
    (lPA2 : K.lookup PA2 = some ⟨.type "tuple", odP3, .seq #[.int 1 tk7, .int 2 tk8, .int 0 tk9] mP3, slP3⟩)
    (zisinstance : PySem.W.nsIn K mainGlobals "isinstance" = some none)
    (zint : PySem.W.nsIn K mainGlobals "int" = some none)
    (zbool : PySem.W.nsIn K mainGlobals "bool" = some none)
    (zlist : PySem.W.nsIn K mainGlobals "list" = some none)
    (ztuple : PySem.W.nsIn K mainGlobals "tuple" = some none)
    (zlen : PySem.W.nsIn K mainGlobals "len" = some none)
    (zall : PySem.W.nsIn K mainGlobals "all" = some none)
    (zzip : PySem.W.nsIn K mainGlobals "zip" = some none)
    (zrange : PySem.W.nsIn K mainGlobals "range" = some none)
    (zenumerate : PySem.W.nsIn K mainGlobals "enumerate" = some none)
    (zsorted : PySem.W.nsIn K mainGlobals "sorted" = some none)
    (zdict : PySem.W.nsIn K mainGlobals "dict" = some none)
    (aStp : PySem.W.findIn K (.ref C) "step" = some (some (.ref gStp)))
    (lStp : K.lookup gStp = some ⟨ocStp, odStp, .func (PySem.W.fnOf "step" "Rule.step" (defArgs sStep) (defBody sStep) (defScope sStep) .none kVStp dcStp pmStp anStp cdStp ctStp), slStp⟩)
    (cStp : PySem.W.codeIn K cdStp "Rule.step" = true)
    (kStp : PySem.W.keepIn K (.ref gStp) = true)
    (iStp : PySem.W.isFn K (.ref gStp) = true)
    (aisInt : PySem.W.nsIn K mainGlobals "is_integer" = some (some (.ref gisInt)))
    (lisInt : K.lookup gisInt = some ⟨ocisInt, odisInt, .func (PySem.W.fnOf "is_integer" "is_integer" (defArgs sIsInt) (defBody sIsInt) (defScope sIsInt) .none kVisInt dcisInt pmisInt anisInt cdisInt ctisInt), slisInt⟩)
    (cisInt : PySem.W.codeIn K cdisInt "is_integer" = true)
    (kisInt : PySem.W.keepIn K (.ref gisInt) = true)
    (abelow : PySem.W.nsIn K mainGlobals "is_below" = some (some (.ref gbelow)))
    (lbelow : K.lookup gbelow = some ⟨ocbelow, odbelow, .func (PySem.W.fnOf "is_below" "is_below" (defArgs sBelow) (defBody sBelow) (defScope sBelow) .none kVbelow dcbelow pmbelow anbelow cdbelow ctbelow), slbelow⟩)
    (cbelow : PySem.W.codeIn K cdbelow "is_below" = true)
    (kbelow : PySem.W.keepIn K (.ref gbelow) = true)
    (aisRow : PySem.W.nsIn K mainGlobals "_is_row" = some (some (.ref gisRow)))
    (lisRow : K.lookup gisRow = some ⟨ocisRow, odisRow, .func (PySem.W.fnOf "_is_row" "_is_row" (defArgs sIsRow) (defBody sIsRow) (defScope sIsRow) .none kVisRow dcisRow pmisRow anisRow cdisRow ctisRow), slisRow⟩)
    (cisRow : PySem.W.codeIn K cdisRow "_is_row" = true)
    (kisRow : PySem.W.keepIn K (.ref gisRow) = true)
    (acheck : PySem.W.nsIn K mainGlobals "_check_table" = some (some (.ref gcheck)))
    (lcheck : K.lookup gcheck = some ⟨occheck, odcheck, .func (PySem.W.fnOf "_check_table" "_check_table" (defArgs sCheck) (defBody sCheck) (defScope sCheck) .none kVcheck dccheck pmcheck ancheck cdcheck ctcheck), slcheck⟩)
    (ccheck : PySem.W.codeIn K cdcheck "_check_table" = true)
    (kcheck : PySem.W.keepIn K (.ref gcheck) = true)
    (adraw : PySem.W.nsIn K mainGlobals "_law_draw" = some (some (.ref gdraw)))
    (ldraw : K.lookup gdraw = some ⟨ocdraw, oddraw, .func (PySem.W.fnOf "_law_draw" "_law_draw" (defArgs sDraw) (defBody sDraw) (defScope sDraw) .none kVdraw dcdraw pmdraw andraw cddraw ctdraw), sldraw⟩)
    (cdraw : PySem.W.codeIn K cddraw "_law_draw" = true)
    (kdraw : PySem.W.keepIn K (.ref gdraw) = true)
    (astart : PySem.W.nsIn K mainGlobals "_law_start" = some (some (.ref gstart)))
    (lstart : K.lookup gstart = some ⟨ocstart, odstart, .func (PySem.W.fnOf "_law_start" "_law_start" (defArgs sStart) (defBody sStart) (defScope sStart) .none kVstart dcstart pmstart anstart cdstart ctstart), slstart⟩)
    (cstart : PySem.W.codeIn K cdstart "_law_start" = true)
    (kstart : PySem.W.keepIn K (.ref gstart) = true)
    (apick : PySem.W.nsIn K mainGlobals "_law_pick" = some (some (.ref gpick)))
    (lpick : K.lookup gpick = some ⟨ocpick, odpick, .func (PySem.W.fnOf "_law_pick" "_law_pick" (defArgs sPick) (defBody sPick) (defScope sPick) .none kVpick dcpick pmpick anpick cdpick ctpick), slpick⟩)
    (cpick : PySem.W.codeIn K cdpick "_law_pick" = true)
    (kpick : PySem.W.keepIn K (.ref gpick) = true)
    (amixed : PySem.W.nsIn K mainGlobals "_law_mixed" = some (some (.ref gmixed)))
    (lmixed : K.lookup gmixed = some ⟨ocmixed, odmixed, .func (PySem.W.fnOf "_law_mixed" "_law_mixed" (defArgs sMixed) (defBody sMixed) (defScope sMixed) .none kVmixed dcmixed pmmixed anmixed cdmixed ctmixed), slmixed⟩)
    (cmixed : PySem.W.codeIn K cdmixed "_law_mixed" = true)
    (kmixed : PySem.W.keepIn K (.ref gmixed) = true)
    (appw : PySem.W.nsIn K mainGlobals "_law_p_power" = some (some (.ref gppw)))
    (lppw : K.lookup gppw = some ⟨ocppw, odppw, .func (PySem.W.fnOf "_law_p_power" "_law_p_power" (defArgs sPP) (defBody sPP) (defScope sPP) .none kVppw dcppw pmppw anppw cdppw ctppw), slppw⟩)
    (cppw : PySem.W.codeIn K cdppw "_law_p_power" = true)
    (kppw : PySem.W.keepIn K (.ref gppw) = true)
    (apmk : PySem.W.nsIn K mainGlobals "_law_p_marked" = some (some (.ref gpmk)))
    (lpmk : K.lookup gpmk = some ⟨ocpmk, odpmk, .func (PySem.W.fnOf "_law_p_marked" "_law_p_marked" (defArgs sMk) (defBody sMk) (defScope sMk) .none kVpmk dcpmk pmpmk anpmk cdpmk ctpmk), slpmk⟩)
    (cpmk : PySem.W.codeIn K cdpmk "_law_p_marked" = true)
    (kpmk : PySem.W.keepIn K (.ref gpmk) = true)
    (ajth : PySem.W.nsIn K mainGlobals "_law_p_jth" = some (some (.ref gjth)))
    (ljth : K.lookup gjth = some ⟨ocjth, odjth, .func (PySem.W.fnOf "_law_p_jth" "_law_p_jth" (defArgs sJth) (defBody sJth) (defScope sJth) .none kVjth dcjth pmjth anjth cdjth ctjth), sljth⟩)
    (cjth : PySem.W.codeIn K cdjth "_law_p_jth" = true)
    (kjth : PySem.W.keepIn K (.ref gjth) = true)
    (aplast : PySem.W.nsIn K mainGlobals "_law_p_last" = some (some (.ref gplast)))
    (lplast : K.lookup gplast = some ⟨ocplast, odplast, .func (PySem.W.fnOf "_law_p_last" "_law_p_last" (defArgs sPLast) (defBody sPLast) (defScope sPLast) .none kVplast dcplast pmplast anplast cdplast ctplast), slplast⟩)
    (cplast : PySem.W.codeIn K cdplast "_law_p_last" = true)
    (kplast : PySem.W.keepIn K (.ref gplast) = true)
    (apru : PySem.W.nsIn K mainGlobals "_law_p_rule" = some (some (.ref gpru)))
    (lpru : K.lookup gpru = some ⟨ocpru, odpru, .func (PySem.W.fnOf "_law_p_rule" "_law_p_rule" (defArgs sRu) (defBody sRu) (defScope sRu) .none kVpru dcpru pmpru anpru cdpru ctpru), slpru⟩)
    (cpru : PySem.W.codeIn K cdpru "_law_p_rule" = true)
    (kpru : PySem.W.keepIn K (.ref gpru) = true)
    (atab : PySem.W.nsIn K mainGlobals "_law_m_table" = some (some (.ref gtab)))
    (ltab : K.lookup gtab = some ⟨octab, odtab, .func (PySem.W.fnOf "_law_m_table" "_law_m_table" (defArgs sTable) (defBody sTable) (defScope sTable) .none kVtab dctab pmtab antab cdtab cttab), sltab⟩)
    (ctab : PySem.W.codeIn K cdtab "_law_m_table" = true)
    (ktab : PySem.W.keepIn K (.ref gtab) = true)
    (acal : PySem.W.nsIn K mainGlobals "_law_m_calls" = some (some (.ref gcal)))
    (lcal : K.lookup gcal = some ⟨occal, odcal, .func (PySem.W.fnOf "_law_m_calls" "_law_m_calls" (defArgs sCalls) (defBody sCalls) (defScope sCalls) .none kVcal dccal pmcal ancal cdcal ctcal), slcal⟩)
    (ccal : PySem.W.codeIn K cdcal "_law_m_calls" = true)
    (kcal : PySem.W.keepIn K (.ref gcal) = true)
    (abeg : PySem.W.nsIn K mainGlobals "_law_begun" = some (some (.ref gbeg)))
    (lbeg : K.lookup gbeg = some ⟨ocbeg, odbeg, .func (PySem.W.fnOf "_law_begun" "_law_begun" (defArgs sBegP) (defBody sBegP) (defScope sBegP) .none kVbeg dcbeg pmbeg anbeg cdbeg ctbeg), slbeg⟩)
    (cbeg : PySem.W.codeIn K cdbeg "_law_begun" = true)
    (kbeg : PySem.W.keepIn K (.ref gbeg) = true)
    (amovd : PySem.W.nsIn K mainGlobals "_law_moved" = some (some (.ref gmovd)))
    (lmovd : K.lookup gmovd = some ⟨ocmovd, odmovd, .func (PySem.W.fnOf "_law_moved" "_law_moved" (defArgs sMovP) (defBody sMovP) (defScope sMovP) .none kVmovd dcmovd pmmovd anmovd cdmovd ctmovd), slmovd⟩)
    (cmovd : PySem.W.codeIn K cdmovd "_law_moved" = true)
    (kmovd : PySem.W.keepIn K (.ref gmovd) = true)
    (alin : PySem.W.nsIn K mainGlobals "_law_line" = some (some (.ref glin)))
    (llin : K.lookup glin = some ⟨oclin, odlin, .func (PySem.W.fnOf "_law_line" "_law_line" (defArgs sLine) (defBody sLine) (defScope sLine) .none kVlin dclin pmlin anlin cdlin ctlin), sllin⟩)
    (clin : PySem.W.codeIn K cdlin "_law_line" = true)
    (klin : PySem.W.keepIn K (.ref glin) = true)
    (ainn : PySem.W.nsIn K mainGlobals "_law_ring_in" = some (some (.ref ginn)))
    (linn : K.lookup ginn = some ⟨ocinn, odinn, .func (PySem.W.fnOf "_law_ring_in" "_law_ring_in" (defArgs sIn) (defBody sIn) (defScope sIn) .none kVinn dcinn pminn aninn cdinn ctinn), slinn⟩)
    (cinn : PySem.W.codeIn K cdinn "_law_ring_in" = true)
    (kinn : PySem.W.keepIn K (.ref ginn) = true)
    (aring : PySem.W.nsIn K mainGlobals "ring" = some (some (.ref gring)))
    (lring : K.lookup gring = some ⟨ocring, odring, .func (PySem.W.fnOf "ring" "ring" (defArgs sRing) (defBody sRing) (defScope sRing) .none kVring dcring pmring anring cdring ctring), slring⟩)
    (cring : PySem.W.codeIn K cdring "ring" = true)
    (kring : PySem.W.keepIn K (.ref gring) = true)
    (atri : PySem.W.nsIn K mainGlobals "_mark_triples" = some (some (.ref gtri)))
    (ltri : K.lookup gtri = some ⟨octri, odtri, .func (PySem.W.fnOf "_mark_triples" "_mark_triples" (defArgs sTriples) (defBody sTriples) (defScope sTriples) .none kVtri dctri pmtri antri cdtri cttri), sltri⟩)
    (ctri : PySem.W.codeIn K cdtri "_mark_triples" = true)
    (ktri : PySem.W.keepIn K (.ref gtri) = true)
    (afirst : PySem.W.nsIn K mainGlobals "_first_states" = some (some (.ref gfirst)))
    (lfirst : K.lookup gfirst = some ⟨ocfirst, odfirst, .func (PySem.W.fnOf "_first_states" "_first_states" (defArgs sFirst) (defBody sFirst) (defScope sFirst) .none kVfirst dcfirst pmfirst anfirst cdfirst ctfirst), slfirst⟩)
    (cfirst : PySem.W.codeIn K cdfirst "_first_states" = true)
    (kfirst : PySem.W.keepIn K (.ref gfirst) = true)
    (aafter : PySem.W.nsIn K mainGlobals "_after" = some (some (.ref gafter)))
    (lafter : K.lookup gafter = some ⟨ocafter, odafter, .func (PySem.W.fnOf "_after" "_after" (defArgs sAfter) (defBody sAfter) (defScope sAfter) .none kVafter dcafter pmafter anafter cdafter ctafter), slafter⟩)
    (cafter : PySem.W.codeIn K cdafter "_after" = true)
    (kafter : PySem.W.keepIn K (.ref gafter) = true)
    (acalled : PySem.W.nsIn K mainGlobals "_called" = some (some (.ref gcalled)))
    (lcalled : K.lookup gcalled = some ⟨occalled, odcalled, .func (PySem.W.fnOf "_called" "_called" (defArgs sCalled) (defBody sCalled) (defScope sCalled) .none kVcalled dccalled pmcalled ancalled cdcalled ctcalled), slcalled⟩)
    (ccalled : PySem.W.codeIn K cdcalled "_called" = true)
    (kcalled : PySem.W.keepIn K (.ref gcalled) = true)
    (amoved : PySem.W.nsIn K mainGlobals "_moved" = some (some (.ref gmoved)))
    (lmoved : K.lookup gmoved = some ⟨ocmoved, odmoved, .func (PySem.W.fnOf "_moved" "_moved" (defArgs sMovedC) (defBody sMovedC) (defScope sMovedC) .none kVmoved dcmoved pmmoved anmoved cdmoved ctmoved), slmoved⟩)
    (cmoved : PySem.W.codeIn K cdmoved "_moved" = true)
    (kmoved : PySem.W.keepIn K (.ref gmoved) = true)
    (away : PySem.W.nsIn K mainGlobals "way_to" = some (some (.ref gway)))
    (lway : K.lookup gway = some ⟨ocway, odway, .func (PySem.W.fnOf "way_to" "way_to" (defArgs sWay) (defBody sWay) (defScope sWay) .none kVway dcway pmway anway cdway ctway), slway⟩)
    (cway : PySem.W.codeIn K cdway "way_to" = true)
    (kway : PySem.W.keepIn K (.ref gway) = true)
    (alf1 : PySem.W.nsIn K mainGlobals "least_form" = some (some (.ref glf1)))
    (llf1 : K.lookup glf1 = some ⟨oclf1, odlf1, .func (PySem.W.fnOf "least_form" "least_form" (defArgs sLeastF) (defBody sLeastF) (defScope sLeastF) .none kVlf1 dclf1 pmlf1 anlf1 cdlf1 ctlf1), sllf1⟩)
    (clf1 : PySem.W.codeIn K cdlf1 "least_form" = true)
    (klf1 : PySem.W.keepIn K (.ref glf1) = true)
    (alf2 : PySem.W.nsIn K mainGlobals "_classes" = some (some (.ref glf2)))
    (llf2 : K.lookup glf2 = some ⟨oclf2, odlf2, .func (PySem.W.fnOf "_classes" "_classes" (defArgs sClasses) (defBody sClasses) (defScope sClasses) .none kVlf2 dclf2 pmlf2 anlf2 cdlf2 ctlf2), sllf2⟩)
    (clf2 : PySem.W.codeIn K cdlf2 "_classes" = true)
    (klf2 : PySem.W.keepIn K (.ref glf2) = true)
    (alf3 : PySem.W.nsIn K mainGlobals "_split" = some (some (.ref glf3)))
    (llf3 : K.lookup glf3 = some ⟨oclf3, odlf3, .func (PySem.W.fnOf "_split" "_split" (defArgs sSplit) (defBody sSplit) (defScope sSplit) .none kVlf3 dclf3 pmlf3 anlf3 cdlf3 ctlf3), sllf3⟩)
    (clf3 : PySem.W.codeIn K cdlf3 "_split" = true)
    (klf3 : PySem.W.keepIn K (.ref glf3) = true)
    (alf4 : PySem.W.nsIn K mainGlobals "_numbered" = some (some (.ref glf4)))
    (llf4 : K.lookup glf4 = some ⟨oclf4, odlf4, .func (PySem.W.fnOf "_numbered" "_numbered" (defArgs sNumbered) (defBody sNumbered) (defScope sNumbered) .none kVlf4 dclf4 pmlf4 anlf4 cdlf4 ctlf4), sllf4⟩)
    (clf4 : PySem.W.codeIn K cdlf4 "_numbered" = true)
    (klf4 : PySem.W.keepIn K (.ref glf4) = true)
    (alf5 : PySem.W.nsIn K mainGlobals "_merged" = some (some (.ref glf5)))
    (llf5 : K.lookup glf5 = some ⟨oclf5, odlf5, .func (PySem.W.fnOf "_merged" "_merged" (defArgs sMerged) (defBody sMerged) (defScope sMerged) .none kVlf5 dclf5 pmlf5 anlf5 cdlf5 ctlf5), sllf5⟩)
    (clf5 : PySem.W.codeIn K cdlf5 "_merged" = true)
    (klf5 : PySem.W.keepIn K (.ref glf5) = true)
    (alf6 : PySem.W.nsIn K mainGlobals "_renumbered" = some (some (.ref glf6)))
    (llf6 : K.lookup glf6 = some ⟨oclf6, odlf6, .func (PySem.W.fnOf "_renumbered" "_renumbered" (defArgs sRenum) (defBody sRenum) (defScope sRenum) .none kVlf6 dclf6 pmlf6 anlf6 cdlf6 ctlf6), sllf6⟩)
    (clf6 : PySem.W.codeIn K cdlf6 "_renumbered" = true)
    (klf6 : PySem.W.keepIn K (.ref glf6) = true)
    (alf7 : PySem.W.nsIn K mainGlobals "_visit_numbers" = some (some (.ref glf7)))
    (llf7 : K.lookup glf7 = some ⟨oclf7, odlf7, .func (PySem.W.fnOf "_visit_numbers" "_visit_numbers" (defArgs sVisit) (defBody sVisit) (defScope sVisit) .none kVlf7 dclf7 pmlf7 anlf7 cdlf7 ctlf7), sllf7⟩)
    (clf7 : PySem.W.codeIn K cdlf7 "_visit_numbers" = true)
    (klf7 : PySem.W.keepIn K (.ref glf7) = true)
    (aLaw : PySem.W.nsIn K mainGlobals "law" = some (some (.ref gLaw)))
    (lLaw : K.lookup gLaw = some ⟨ocLaw, odLaw, .func (PySem.W.fnOf "law" "law" (defArgs sLaw) (defBody sLaw) (defScope sLaw) .none kVLaw dcLaw pmLaw anLaw cdLaw ctLaw), slLaw⟩)
    (cLaw : PySem.W.codeIn K cdLaw "law" = true)
    (kLaw : PySem.W.keepIn K (.ref gLaw) = true) :
    ∃ fd : FuncData, (∀ (s : Shared) (v : Value), BindsTo s fd ⟨[v], []⟩ [("_law_script", v)]) ∧ ∀ base : Heap, K.In base → base.Ns mainGlobals mg → FnOk l.prog w K mg base CX0 8 fa fd ["_law_script"] (spLaw K) := by
  have e := hfa.symm.trans (PySem.W.mg_of X_ G aLaw)
  cases e
  have FCI : FunI K gCI (PySem.W.fnOf "__init__" "Rule.__init__" (defArgs sInit) (defBody sInit) (defScope sInit) (.ref TT) kVCI dcCI pmCI anCI cdCI ctCI) DD := ⟨⟨_, _, _, _, _, _, _, _, _, _, rfl, lCI, cCI, .inr ⟨by simp, TT, _, [.ref DD], mT, rfl, lT, rfl, .cons rfl .nil⟩, .inl rfl⟩, kCI⟩
  have b1I := FCI.binds1 (ps := ["self", "rows", "starts"]) 2 0 (by simp) rfl (fun T kV doc pm an cdv ct us its h1 h2 => match us, h1, its, h2 with | [_, _], _, [_], _ => ⟨_, rfl, rfl⟩)
  have hdd : ∀ H, SqT K H DD [V.int 0] := fun H => .inr ⟨_, #[.int 0 tkD], mD, lD, rfl, rfl, (by show 1 ≤ sizeLine; decide), .cons ⟨tkD, rfl⟩ .nil⟩
  have hpa0 : ∀ H, SqT K H PA0 [V.int 0, .int 1, .int 2] := fun H => .inr ⟨_, #[.int 0 tk1, .int 1 tk2, .int 2 tk3], mP1, lPA0, rfl, rfl, (by show 3 ≤ sizeLine; decide), .cons ⟨tk1, rfl⟩ (.cons ⟨tk2, rfl⟩ (.cons ⟨tk3, rfl⟩ .nil))⟩
  have hpa1 : ∀ H, SqT K H PA1 [V.int 0, .int 2, .int 1] := fun H => .inr ⟨_, #[.int 0 tk4, .int 2 tk5, .int 1 tk6], mP2, lPA1, rfl, rfl, (by show 3 ≤ sizeLine; decide), .cons ⟨tk4, rfl⟩ (.cons ⟨tk5, rfl⟩ (.cons ⟨tk6, rfl⟩ .nil))⟩
  have hpa2 : ∀ H, SqT K H PA2 [V.int 1, .int 2, .int 0] := fun H => .inr ⟨_, #[.int 1 tk7, .int 2 tk8, .int 0 tk9], mP3, lPA2, rfl, rfl, (by show 3 ≤ sizeLine; decide), .cons ⟨tk7, rfl⟩ (.cons ⟨tk8, rfl⟩ (.cons ⟨tk9, rfl⟩ .nil))⟩
  have hpd : ∀ H, SqT K H PD [V.ref PA0, .ref PA1, .ref PA2] := fun H => .inr ⟨_, #[.ref PA0, .ref PA1, .ref PA2], mP0, lPD, rfl, rfl, (by show 3 ≤ sizeLine; decide), .cons rfl (.cons rfl (.cons rfl .nil))⟩
  have FStp := fun_mk (st := sStep) lStp cStp kStp
  have bStp := FStp.binds (ps := ["self", "state", "behind"]) fun _ _ _ _ _ _ us hl => match us, hl with | [_, _, _], _ => rfl
  have FisInt := fun_mk (st := sIsInt) lisInt cisInt kisInt
  have bisInt := FisInt.binds (ps := ["value"]) fun _ _ _ _ _ _ us hl => match us, hl with | [_], _ => rfl
  have Fbelow := fun_mk (st := sBelow) lbelow cbelow kbelow
  have bbelow := Fbelow.binds (ps := ["value", "count"]) fun _ _ _ _ _ _ us hl => match us, hl with | [_, _], _ => rfl
  have FisRow := fun_mk (st := sIsRow) lisRow cisRow kisRow
  have bisRow := FisRow.binds (ps := ["row", "count"]) fun _ _ _ _ _ _ us hl => match us, hl with | [_, _], _ => rfl
  have Fcheck := fun_mk (st := sCheck) lcheck ccheck kcheck
  have bcheck := Fcheck.binds (ps := ["rows", "starts"]) fun _ _ _ _ _ _ us hl => match us, hl with | [_, _], _ => rfl
  have Fdraw := fun_mk (st := sDraw) ldraw cdraw kdraw
  have bdraw := Fdraw.binds (ps := ["_law_stream", "_law_many"]) fun _ _ _ _ _ _ us hl => match us, hl with | [_, _], _ => rfl
  have Fstart := fun_mk (st := sStart) lstart cstart kstart
  have bstart := Fstart.binds (ps := ["_law_script"]) fun _ _ _ _ _ _ us hl => match us, hl with | [_], _ => rfl
  have Fpick := fun_mk (st := sPick) lpick cpick kpick
  have bpick := Fpick.binds (ps := ["_law_stream", "_law_some"]) fun _ _ _ _ _ _ us hl => match us, hl with | [_, _], _ => rfl
  have Fmixed := fun_mk (st := sMixed) lmixed cmixed kmixed
  have bmixed := Fmixed.binds (ps := ["_law_stream", "_law_some"]) fun _ _ _ _ _ _ us hl => match us, hl with | [_, _], _ => rfl
  have Fppw := fun_mk (st := sPP) lppw cppw kppw
  have bppw := Fppw.binds (ps := ["_law_table", "_law_k"]) fun _ _ _ _ _ _ us hl => match us, hl with | [_, _], _ => rfl
  have Fpmk := fun_mk (st := sMk) lpmk cpmk kpmk
  have bpmk := Fpmk.binds (ps := ["_law_words"]) fun _ _ _ _ _ _ us hl => match us, hl with | [_], _ => rfl
  have Fjth := fun_mk (st := sJth) ljth cjth kjth
  have bjth := Fjth.binds (ps := ["_law_word", "_law_sign", "_law_j"]) fun _ _ _ _ _ _ us hl => match us, hl with | [_, _, _], _ => rfl
  have Fplast := fun_mk (st := sPLast) lplast cplast kplast
  have bplast := Fplast.binds (ps := ["_law_j"]) fun _ _ _ _ _ _ us hl => match us, hl with | [_], _ => rfl
  have Fpru := fun_mk (st := sRu) lpru cpru kpru
  have bpru := Fpru.binds (ps := ["_law_stream", "_law_most"]) fun _ _ _ _ _ _ us hl => match us, hl with | [_, _], _ => rfl
  have Ftab := fun_mk (st := sTable) ltab ctab ktab
  have btab := Ftab.binds (ps := ["_law_stream", "_law_most", "_law_marks"]) fun _ _ _ _ _ _ us hl => match us, hl with | [_, _, _], _ => rfl
  have Fcal := fun_mk (st := sCalls) lcal ccal kcal
  have bcal := Fcal.binds (ps := ["_law_stream", "_law_cases", "_law_most"]) fun _ _ _ _ _ _ us hl => match us, hl with | [_, _, _], _ => rfl
  have Fbeg := fun_mk (st := sBegP) lbeg cbeg kbeg
  have bbeg := Fbeg.binds (ps := ["_law_rule", "_law_marks"]) fun _ _ _ _ _ _ us hl => match us, hl with | [_, _], _ => rfl
  have Fmovd := fun_mk (st := sMovP) lmovd cmovd kmovd
  have bmovd := Fmovd.binds (ps := ["_law_rule", "_law_pairs", "_law_case"]) fun _ _ _ _ _ _ us hl => match us, hl with | [_, _, _], _ => rfl
  have Flin := fun_mk (st := sLine) llin clin klin
  have blin := Flin.binds (ps := ["_law_pairs", "_law_many"]) fun _ _ _ _ _ _ us hl => match us, hl with | [_, _], _ => rfl
  have Finn := fun_mk (st := sIn) linn cinn kinn
  have binn := Finn.binds (ps := ["_law_stream", "_law_rule", "_law_found"]) fun _ _ _ _ _ _ us hl => match us, hl with | [_, _, _], _ => rfl
  have Fring := fun_mk (st := sRing) lring cring kring
  have bring := Fring.binds (ps := ["rule"]) fun _ _ _ _ _ _ us hl => match us, hl with | [_], _ => rfl
  have Ftri := fun_mk (st := sTriples) ltri ctri ktri
  have btri := Ftri.binds (ps := ["marks"]) fun _ _ _ _ _ _ us hl => match us, hl with | [_], _ => rfl
  have Ffirst := fun_mk (st := sFirst) lfirst cfirst kfirst
  have bfirst := Ffirst.binds (ps := ["starts", "marks", "triple"]) fun _ _ _ _ _ _ us hl => match us, hl with | [_, _, _], _ => rfl
  have Fafter := fun_mk (st := sAfter) lafter cafter kafter
  have bafter := Fafter.binds (ps := ["rows", "states", "place"]) fun _ _ _ _ _ _ us hl => match us, hl with | [_, _, _], _ => rfl
  have Fcalled := fun_mk (st := sCalled) lcalled ccalled kcalled
  have bcalled := Fcalled.binds (ps := ["row", "behind"]) fun _ _ _ _ _ _ us hl => match us, hl with | [_, _], _ => rfl
  have Fmoved := fun_mk (st := sMovedC) lmoved cmoved kmoved
  have bmoved := Fmoved.binds (ps := ["cases", "case", "place"]) fun _ _ _ _ _ _ us hl => match us, hl with | [_, _, _], _ => rfl
  have Fway := fun_mk (st := sWay) lway cway kway
  have bway := Fway.binds (ps := ["entries", "at"]) fun _ _ _ _ _ _ us hl => match us, hl with | [_, _], _ => rfl
  have Flf1 := fun_mk (st := sLeastF) llf1 clf1 klf1
  have blf1 := Flf1.binds (ps := ["rows", "starts"]) fun _ _ _ _ _ _ us hl => match us, hl with | [_, _], _ => rfl
  have Flf2 := fun_mk (st := sClasses) llf2 clf2 klf2
  have blf2 := Flf2.binds (ps := ["rows"]) fun _ _ _ _ _ _ us hl => match us, hl with | [_], _ => rfl
  have Flf3 := fun_mk (st := sSplit) llf3 clf3 klf3
  have blf3 := Flf3.binds (ps := ["rows", "classes"]) fun _ _ _ _ _ _ us hl => match us, hl with | [_, _], _ => rfl
  have Flf4 := fun_mk (st := sNumbered) llf4 clf4 klf4
  have blf4 := Flf4.binds (ps := ["keys"]) fun _ _ _ _ _ _ us hl => match us, hl with | [_], _ => rfl
  have Flf5 := fun_mk (st := sMerged) llf5 clf5 klf5
  have blf5 := Flf5.binds (ps := ["rows", "classes"]) fun _ _ _ _ _ _ us hl => match us, hl with | [_, _], _ => rfl
  have Flf6 := fun_mk (st := sRenum) llf6 clf6 klf6
  have blf6 := Flf6.binds (ps := ["row", "numbers"]) fun _ _ _ _ _ _ us hl => match us, hl with | [_, _], _ => rfl
  have Flf7 := fun_mk (st := sVisit) llf7 clf7 klf7
  have blf7 := Flf7.binds (ps := ["rows", "starts"]) fun _ _ _ _ _ _ us hl => match us, hl with | [_, _], _ => rfl
  have PR : Prog K mg C := ⟨⟨⟨pgC, hdC, poC, saC⟩, nCrows, nCstarts, nCmarks, PySem.W.mg_of X_ G aC, PySem.W.mg_none_of X_ G zisinstance, PySem.W.mg_none_of X_ G zint, PySem.W.mg_none_of X_ G zbool, PySem.W.mg_none_of X_ G zlist, PySem.W.mg_none_of X_ G ztuple, PySem.W.mg_none_of X_ G zlen, PySem.W.mg_none_of X_ G zall, PySem.W.mg_none_of X_ G zzip, PySem.W.mg_none_of X_ G zrange, ⟨tkM, PySem.W.mg_of X_ G aMost⟩, ⟨DM, PySem.W.mg_of X_ G aM, ⟨⟨x1, x2, x3, x4, y1, y2, y3, y4, nM_, lM⟩, lw⟩⟩⟩, ⟨⟨PD, PA0, PA1, PA2, PySem.W.mg_of X_ G aPD, hpd, hpa0, hpa1, hpa2⟩⟩, PySem.W.mg_none_of X_ G zsorted, PySem.W.mg_none_of X_ G zdict, ⟨gCI, _, DD, FCI, ⟨mkC, aCI, iCI, kcC⟩, bI2_of FCI⟩, ⟨_, _, FStp, bStp, ⟨aStp, iStp, kStp⟩⟩, ⟨_, _, ⟨FisInt, bisInt, PySem.W.mg_of X_ G aisInt⟩⟩, ⟨_, _, ⟨Fbelow, bbelow, PySem.W.mg_of X_ G abelow⟩⟩, ⟨_, _, ⟨FisRow, bisRow, PySem.W.mg_of X_ G aisRow⟩⟩, ⟨_, _, ⟨Fcheck, bcheck, PySem.W.mg_of X_ G acheck⟩⟩, ⟨_, _, ⟨Fdraw, bdraw, PySem.W.mg_of X_ G adraw⟩⟩, ⟨_, _, ⟨Fstart, bstart, PySem.W.mg_of X_ G astart⟩⟩, ⟨_, _, ⟨Fpick, bpick, PySem.W.mg_of X_ G apick⟩⟩, ⟨_, _, ⟨Fmixed, bmixed, PySem.W.mg_of X_ G amixed⟩⟩, ⟨_, _, ⟨Fppw, bppw, PySem.W.mg_of X_ G appw⟩⟩, ⟨_, _, ⟨Fpmk, bpmk, PySem.W.mg_of X_ G apmk⟩⟩, ⟨_, _, ⟨Fjth, bjth, PySem.W.mg_of X_ G ajth⟩⟩, ⟨_, _, ⟨Fplast, bplast, PySem.W.mg_of X_ G aplast⟩⟩, ⟨_, _, ⟨Fpru, bpru, PySem.W.mg_of X_ G apru⟩⟩, ⟨_, _, ⟨Ftab, btab, PySem.W.mg_of X_ G atab⟩⟩, ⟨_, _, ⟨Fcal, bcal, PySem.W.mg_of X_ G acal⟩⟩, ⟨_, _, ⟨Fbeg, bbeg, PySem.W.mg_of X_ G abeg⟩⟩, ⟨_, _, ⟨Fmovd, bmovd, PySem.W.mg_of X_ G amovd⟩⟩, ⟨_, _, ⟨Flin, blin, PySem.W.mg_of X_ G alin⟩⟩, ⟨_, _, ⟨Finn, binn, PySem.W.mg_of X_ G ainn⟩⟩, ⟨_, _, ⟨Fring, bring, PySem.W.mg_of X_ G aring⟩⟩, ⟨_, _, ⟨Ftri, btri, PySem.W.mg_of X_ G atri⟩⟩, ⟨_, _, ⟨Ffirst, bfirst, PySem.W.mg_of X_ G afirst⟩⟩, ⟨_, _, ⟨Fafter, bafter, PySem.W.mg_of X_ G aafter⟩⟩, ⟨_, _, ⟨Fcalled, bcalled, PySem.W.mg_of X_ G acalled⟩⟩, ⟨_, _, ⟨Fmoved, bmoved, PySem.W.mg_of X_ G amoved⟩⟩, ⟨_, _, ⟨Fway, bway, PySem.W.mg_of X_ G away⟩⟩, ⟨_, _, _, _, _, _, _, _, _, _, _, _, _, _, ⟨PySem.W.mg_none_of X_ G zenumerate, ⟨Flf1, blf1, PySem.W.mg_of X_ G alf1⟩, ⟨Flf2, blf2, PySem.W.mg_of X_ G alf2⟩, ⟨Flf3, blf3, PySem.W.mg_of X_ G alf3⟩, ⟨Flf4, blf4, PySem.W.mg_of X_ G alf4⟩, ⟨Flf5, blf5, PySem.W.mg_of X_ G alf5⟩, ⟨Flf6, blf6, PySem.W.mg_of X_ G alf6⟩, ⟨Flf7, blf7, PySem.W.mg_of X_ G alf7⟩⟩⟩⟩
  exact ⟨PySem.W.fnOf "law" "law" (defArgs sLaw) (defBody sLaw) (defScope sLaw) .none kVLaw dcLaw pmLaw anLaw cdLaw ctLaw, fun s v => .of_eq rfl, fun base _ _ => ok_law (fun_mk (st := sLaw) lLaw cLaw kLaw) PR⟩
theorem walk_ {l : PySem.W.OpenLaw} {q : Program} {loose : List Str} {XP : (Str → Option Value) → Heap → Prop} {YP : World → Heap → Prop} {d : DefRec} {K : Params → PySem.W.Frag} (hn : l.most = some 63) (hdf : d.params.defaults = [])
    (hY : ∀ (w : World) (h : Heap), YP w h → (K w.params).In h)
    (F : ∀ (w : World) (mg : Str → Option Value) (fa : Addr) (h : Heap), (K w.params).In h → h.Ns mainGlobals mg → mg d.name = some (.ref fa) →
      ∃ fd : FuncData, (∀ (s : Shared) (u : Value), BindsTo s fd ⟨[u], []⟩ [("_law_script", u)]) ∧ ∀ base : Heap, (K w.params).In base → base.Ns mainGlobals mg → FnOk l.prog w (K w.params) mg base CX0 8 fa fd ["_law_script"] (spLaw (K w.params))) :
    PySem.W.WalkO q loose XP YP l.row.toRowW d [] (fun f vs => PySem.call f vs) :=
  L2.walk_of (n := 63) (k := 8) (x := "_law_script") (CX := fun _ => CX0) (sp := fun w => spLaw (K w.params)) hn (by decide) hdf ⟨rfl, by decide, by decide⟩ hY F (fun _ _ a ns hl _ hS => ⟨a, ns, rfl, hS, hl, fun _ => rfl⟩) fun _ _ _ _ _ z => z
end PA

open PySem PySem.W PyProof.Rows
set_option maxRecDepth 100000 in
set_option maxHeartbeats 0 in
theorem PySem.Challenge.cw_pairahead_k17_whole_lists_of_any_length_holds : PySem.Challenge.rw_pairahead_k17_whole_lists_of_any_length.Holds := by
  w_on; o_law; k_head; (case hw => w_witness2)
  k_fill
  refine PA.walk_ (l := PySem.Challenge.rw_pairahead_k17_whole_lists_of_any_length) rfl rfl (fun w h Y => PySem.W.kIn_of Y) ?F
  case F =>
    intro w mg fa h KX G hmg
    refine' PA.all_mk KX G hmg ?aC ?pgC ?hdC ?poC ?saC ?kcC ?mkC ?nCrows ?nCstarts ?nCmarks ?aCI ?lCI ?cCI ?kCI ?iCI ?lT ?lD ?aM ?lM ?lw ?aMost ?aPD ?lPD ?lPA0 ?lPA1 ?lPA2 ?zisinstance ?zint ?zbool ?zlist ?ztuple ?zlen ?zall ?zzip ?zrange ?zenumerate ?zsorted ?zdict ?aStp ?lStp ?cStp ?kStp ?iStp ?aisInt ?lisInt ?cisInt ?kisInt ?abelow ?lbelow ?cbelow ?kbelow ?aisRow ?lisRow ?cisRow ?kisRow ?acheck ?lcheck ?ccheck ?kcheck ?adraw ?ldraw ?cdraw ?kdraw ?astart ?lstart ?cstart ?kstart ?apick ?lpick ?cpick ?kpick ?amixed ?lmixed ?cmixed ?kmixed ?appw ?lppw ?cppw ?kppw ?apmk ?lpmk ?cpmk ?kpmk ?ajth ?ljth ?cjth ?kjth ?aplast ?lplast ?cplast ?kplast ?apru ?lpru ?cpru ?kpru ?atab ?ltab ?ctab ?ktab ?acal ?lcal ?ccal ?kcal ?abeg ?lbeg ?cbeg ?kbeg ?amovd ?lmovd ?cmovd ?kmovd ?alin ?llin ?clin ?klin ?ainn ?linn ?cinn ?kinn ?aring ?lring ?cring ?kring ?atri ?ltri ?ctri ?ktri ?afirst ?lfirst ?cfirst ?kfirst ?aafter ?lafter ?cafter ?kafter ?acalled ?lcalled ?ccalled ?kcalled ?amoved ?lmoved ?cmoved ?kmoved ?away ?lway ?cway ?kway ?alf1 ?llf1 ?clf1 ?klf1 ?alf2 ?llf2 ?clf2 ?klf2 ?alf3 ?llf3 ?clf3 ?klf3 ?alf4 ?llf4 ?clf4 ?klf4 ?alf5 ?llf5 ?clf5 ?klf5 ?alf6 ?llf6 ?clf6 ?klf6 ?alf7 ?llf7 ?clf7 ?klf7 ?aLaw ?lLaw ?cLaw ?kLaw
    (case aC => k_is)
    (case pgC => k_is)
    (case hdC => k_is)
    (case poC => k_is)
    (case saC => k_is)
    (case kcC => k_is)
    (case mkC => k_is)
    (case nCrows => k_is)
    (case nCstarts => k_is)
    (case nCmarks => k_is)
    (case aCI => k_is)
    (case lCI => k_is)
    (case cCI => k_is)
    (case kCI => k_is)
    (case iCI => k_is)
    (case lT => k_is)
    (case lD => k_is)
    (case aM => k_is)
    (case lM => k_is)
    (case lw => first | rfl | decide | k_is)
    (case aMost => k_is)
    (case aPD => k_is)
    (case lPD => k_is)
    (case lPA0 => k_is)
    (case lPA1 => k_is)
    (case lPA2 => k_is)
    (case zisinstance => k_is)
    (case zint => k_is)
    (case zbool => k_is)
    (case zlist => k_is)
    (case ztuple => k_is)
    (case zlen => k_is)
    (case zall => k_is)
    (case zzip => k_is)
    (case zrange => k_is)
    (case zenumerate => k_is)
    (case zsorted => k_is)
    (case zdict => k_is)
    (case aStp => k_is)
    (case lStp => k_is)
    (case cStp => k_is)
    (case kStp => k_is)
    (case iStp => k_is)
    (case aisInt => k_is)
    (case lisInt => k_is)
    (case cisInt => k_is)
    (case kisInt => k_is)
    (case abelow => k_is)
    (case lbelow => k_is)
    (case cbelow => k_is)
    (case kbelow => k_is)
    (case aisRow => k_is)
    (case lisRow => k_is)
    (case cisRow => k_is)
    (case kisRow => k_is)
    (case acheck => k_is)
    (case lcheck => k_is)
    (case ccheck => k_is)
    (case kcheck => k_is)
    (case adraw => k_is)
    (case ldraw => k_is)
    (case cdraw => k_is)
    (case kdraw => k_is)
    (case astart => k_is)
    (case lstart => k_is)
    (case cstart => k_is)
    (case kstart => k_is)
    (case apick => k_is)
    (case lpick => k_is)
    (case cpick => k_is)
    (case kpick => k_is)
    (case amixed => k_is)
    (case lmixed => k_is)
    (case cmixed => k_is)
    (case kmixed => k_is)
    (case appw => k_is)
    (case lppw => k_is)
    (case cppw => k_is)
    (case kppw => k_is)
    (case apmk => k_is)
    (case lpmk => k_is)
    (case cpmk => k_is)
    (case kpmk => k_is)
    (case ajth => k_is)
    (case ljth => k_is)
    (case cjth => k_is)
    (case kjth => k_is)
    (case aplast => k_is)
    (case lplast => k_is)
    (case cplast => k_is)
    (case kplast => k_is)
    (case apru => k_is)
    (case lpru => k_is)
    (case cpru => k_is)
    (case kpru => k_is)
    (case atab => k_is)
    (case ltab => k_is)
    (case ctab => k_is)
    (case ktab => k_is)
    (case acal => k_is)
    (case lcal => k_is)
    (case ccal => k_is)
    (case kcal => k_is)
    (case abeg => k_is)
    (case lbeg => k_is)
    (case cbeg => k_is)
    (case kbeg => k_is)
    (case amovd => k_is)
    (case lmovd => k_is)
    (case cmovd => k_is)
    (case kmovd => k_is)
    (case alin => k_is)
    (case llin => k_is)
    (case clin => k_is)
    (case klin => k_is)
    (case ainn => k_is)
    (case linn => k_is)
    (case cinn => k_is)
    (case kinn => k_is)
    (case aring => k_is)
    (case lring => k_is)
    (case cring => k_is)
    (case kring => k_is)
    (case atri => k_is)
    (case ltri => k_is)
    (case ctri => k_is)
    (case ktri => k_is)
    (case afirst => k_is)
    (case lfirst => k_is)
    (case cfirst => k_is)
    (case kfirst => k_is)
    (case aafter => k_is)
    (case lafter => k_is)
    (case cafter => k_is)
    (case kafter => k_is)
    (case acalled => k_is)
    (case lcalled => k_is)
    (case ccalled => k_is)
    (case kcalled => k_is)
    (case amoved => k_is)
    (case lmoved => k_is)
    (case cmoved => k_is)
    (case kmoved => k_is)
    (case away => k_is)
    (case lway => k_is)
    (case cway => k_is)
    (case kway => k_is)
    (case alf1 => k_is)
    (case llf1 => k_is)
    (case clf1 => k_is)
    (case klf1 => k_is)
    (case alf2 => k_is)
    (case llf2 => k_is)
    (case clf2 => k_is)
    (case klf2 => k_is)
    (case alf3 => k_is)
    (case llf3 => k_is)
    (case clf3 => k_is)
    (case klf3 => k_is)
    (case alf4 => k_is)
    (case llf4 => k_is)
    (case clf4 => k_is)
    (case klf4 => k_is)
    (case alf5 => k_is)
    (case llf5 => k_is)
    (case clf5 => k_is)
    (case klf5 => k_is)
    (case alf6 => k_is)
    (case llf6 => k_is)
    (case clf6 => k_is)
    (case klf6 => k_is)
    (case alf7 => k_is)
    (case llf7 => k_is)
    (case clf7 => k_is)
    (case klf7 => k_is)
    (case aLaw => k_is)
    (case lLaw => k_is)
    (case cLaw => k_is)
    (case kLaw => k_is)
#print axioms PySem.Challenge.cw_pairahead_k17_whole_lists_of_any_length_holds
