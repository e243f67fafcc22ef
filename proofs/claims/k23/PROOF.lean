import PyProof.Rows.All
import Wide.All
import OpenK.AllK
import Wide.FinOn
import HandS.ForMost
import HandS.IsInst
import HandS.Zip
import HandS.Wide
import HandS.Codes
import HandS.Evl
import HandS.Conv
import HandS.Defaults
import HandS.MakeKw
import HandS.Walk
import HandS.TupAny
import HandS.Words
import HandS.WordsList
import HandS.Text
import HandS.More
import HandS.Iter
import PySem.Challenge.RW_pairahead_k23_claims_made
import HandS.ExcIs
import HandS.TryOnly
import HandS.WordsExc
import HandS.Style
import HandS.TupLe
import HandS.OwnEq
import HandS.Gcd
import HandS.ExcBuiltin
import HandS.ForExc
import HandS.FStr
import KE.KCallOwn
import PyProof.Conv_bool
import HandS.ClsMeth
import HandS.StrMore
import PyProof.StrReplace2
import HandS.ReplaceLit
import HandS.Replace
import HandS.ExcOwn
set_option Elab.async false
set_option linter.all false
set_option maxRecDepth 100000
set_option maxHeartbeats 2000000
/-! what serves every row -/
namespace L2
open PySem PySem.Spec PyProof.Rows
theorem PI.or {X : Cx} {tg l : Expr} {w1 w2 : TI} (h1 : PI X tg l w1) (h2 : PI X tg l w2) : PI X tg l (fun σ H R => w1 σ H R ∨ w2 σ H R) :=
  ⟨fun pins s σ H R I h => h.elim (h1.run pins s σ H R I) (h2.run pins s σ H R I)⟩
/-- a list or a tuple -/
def Sq (K : PySem.W.Frag) (H : Hp) (a : Addr) (xs : List V) : Prop := SqL K H a xs ∨ SqT K H a xs
theorem SqT.up {K : PySem.W.Frag} {H H' : Hp} {a : Addr} {xs : List V} (h : SqT K H a xs) (e : Same H H') : SqT K H' a xs :=
  h.elim (fun h => .inl (h.elim (fun h => .inl (e _ _ h)) fun ⟨o, h⟩ => .inr ⟨o, e _ _ h⟩)) fun h => .inr h
theorem SqL.up {K : PySem.W.Frag} {H H' : Hp} {a : Addr} {xs : List V} (h : SqL K H a xs) (e : Same H H') : SqL K H' a xs :=
  h.elim (fun h => .inl (h.elim (fun h => .inl (e _ _ h)) fun ⟨o, h⟩ => .inr ⟨o, e _ _ h⟩)) fun h => .inr h
theorem Sq.up {K : PySem.W.Frag} {H H' : Hp} {a : Addr} {xs : List V} (h : Sq K H a xs) (e : Same H H') : Sq K H' a xs := h.imp (fun h => SqL.up h e) fun h => SqT.up h e
theorem walk_l {K : PySem.W.Frag} {a : Addr} {xs : List V} : Walk (Itl K a) xs.length (fun H => SqL K H a xs) (YAt xs) :=
  ⟨fun i H hi q => ⟨xs, xs[i], q, by simp [hi]⟩, fun H q => ⟨xs, q, Nat.le_refl _⟩, fun i H x H' hi q y => ⟨y.1, y.2 xs q⟩⟩
theorem walk_t {K : PySem.W.Frag} {a : Addr} {xs : List V} : Walk (Itt K a) xs.length (fun H => SqT K H a xs) (YAt xs) :=
  ⟨fun i H hi q => ⟨xs, xs[i], q, by simp [hi]⟩, fun H q => ⟨xs, q, Nat.le_refl _⟩, fun i H x H' hi q y => ⟨y.1, y.2 xs q⟩⟩
/-- how a value that is a list or a tuple of xs stands, as one of the two -/
inductive Kind where
  | l | t
def Sk (K : PySem.W.Frag) (k : Kind) (H : Hp) (a : Addr) (xs : List V) : Prop := match k with
  | .l => SqL K H a xs
  | .t => SqT K H a xs
theorem Sk.sq {K : PySem.W.Frag} {k : Kind} {H : Hp} {a : Addr} {xs : List V} (h : Sk K k H a xs) : Sq K H a xs := by
  cases k
  · exact .inl h
  · exact .inr h
theorem Sk.up {K : PySem.W.Frag} {k : Kind} {H H' : Hp} {a : Addr} {xs : List V} (h : Sk K k H a xs) (e : Same H H') : Sk K k H' a xs := by
  cases k
  · exact SqL.up h e
  · exact SqT.up h e
theorem Sq.kind {K : PySem.W.Frag} {H : Hp} {a : Addr} {xs : List V} (h : Sq K H a xs) : ∃ k, Sk K k H a xs := h.elim (fun h => ⟨.l, h⟩) fun h => ⟨.t, h⟩
def ItSq (K : PySem.W.Frag) (k : Kind) (a : Addr) : It := match k with
  | .l => Itl K a
  | .t => Itt K a
theorem walk_k {K : PySem.W.Frag} {k : Kind} {a : Addr} {xs : List V} : Walk (ItSq K k a) xs.length (fun H => Sk K k H a xs) (YAt xs) := by
  cases k
  · exact walk_l
  · exact walk_t
/-- a walk over a list or a tuple -/
def iSq (K : PySem.W.Frag) (tl : TE) : TI := fun σ H R => ∃ k : Kind, tl σ H fun x H1 => ∃ a, x = .ref a ∧ (∃ xs, Sk K k H1 a xs) ∧ R (ItSq K k a) H1
theorem pi_sq {X : Cx} {tg l : Expr} {tl : TE} (hl : PE X l tl) : PI X tg l (iSq X.K tl) := by
  refine ⟨fun pins s σ H R I ⟨k, h⟩ => ?_⟩
  cases k
  · exact (pi_list hl).run pins s σ H R I h
  · exact (pi_tup hl).run pins s σ H R I h
/-! ### comprehensions -/
section
variable {J : It} {n : Nat} {G : Hp → Prop} {xs : List V} {g : TG} {tt : TT} {te : TE} {vs : List Nat} {σ : L2.St} {H1 : Hp} {D : Addr} {Qd : Hp → Prop}
theorem new_ {H : Hp} {p : Addr} {o : HO} (hp : H p = none) : Same H (upd H p o) := fun b u e => by
  rw [upd_ne (ne_of_none e hp)]
  exact e
/-- all but D is as it was -/
def But (D : Addr) (H H' : Hp) : Prop := ∀ c o, c ≠ D → H c = some o → H' c = some o
/-- the values are made one after another, the heap of before stays -/
theorem lc_acc (w : Walk J n G (YAt xs)) (hn : n ≤ sizeLine) (hD : H1 D = none) (hG : ∀ H, Same H1 H → G H) (A : Nat → List V → Hp → Prop) (hl : ∀ i acc H, A i acc H → acc.length ≤ i) (A0 : A 0 [] (upd H1 D (.lst [])))
    (hs : ∀ (i : Nat) (x : V) (H : Hp) (acc : List V) (Φ : V → Hp → Prop) (Ψ : Hp → Prop), i < n → xs[i]? = some x → Same H1 H → H D = some (.lst acc) → A i acc H →
      (∀ y H4, Same H H4 → H4 D = some (.lst acc) → (∀ H5, H5 D = some (.lst (acc ++ [y])) → But D H4 H5 → But D H5 H4 → A (i + 1) (acc ++ [y]) H5) → Φ y H4) →
      g x (wipe σ vs) H fun σ2 H2 => wipe σ2 vs = wipe σ vs ∧ tt σ2 H2 fun b H3 => if b = true then te σ2 H3 Φ else Ψ H3)
    (hd : ∀ H acc, Same H1 H → H D = some (.lst acc) → A n acc H → Qd H) :
    ∃ W : Nat → Nat → Hp → Prop, (∃ m, W 0 m (upd H1 D (.lst []))) ∧ ∀ i m H, W i m H →
      (J.stop i H ∧ Qd H) ∨ (J.go i H ∧ ∃ Nx : Hp → Prop, (∀ H', Nx H' → ∃ m', m' < m ∧ W (i + 1) m' H') ∧ ∀ x H', J.yld i H x H' → g x (wipe σ vs) H' fun σ2 H2 => wipe σ2 vs = wipe σ vs ∧ tt σ2 H2 fun b H3 =>
        if b = true then te σ2 H3 fun y H4 => ∃ acc, H4 D = some (.lst acc) ∧ acc.length < sizeLine ∧ Nx (upd H4 D (.lst (acc ++ [y]))) else Nx H3) := by
  refine lc_it w (fun i H => Same H1 H ∧ ∃ acc, H D = some (.lst acc) ∧ A i acc H) ⟨new_ hD, [], upd_same, A0⟩ (fun i H _ p => hG H p.1) (fun i x H H' hi p y => ?_) fun H p => ?_
  · obtain ⟨rfl, hx⟩ := y
    obtain ⟨sm, acc, hd', ha⟩ := p
    refine hs i x _ acc _ _ hi hx sm hd' ha fun y H4 s4 d4 k => ⟨acc, d4, Nat.lt_of_lt_of_le (Nat.lt_of_le_of_lt (hl _ _ _ ha) hi) hn, fun c o e => ?_, acc ++ [y], upd_same, k _ upd_same (fun c o cd e => ?_) fun c o cd e => ?_⟩
    · rw [upd_ne (ne_of_none e hD)]
      exact s4 _ _ (sm _ _ e)
    · rw [upd_ne cd]
      exact e
    · rw [upd_ne cd] at e
      exact e
  · obtain ⟨sm, acc, hd', ha⟩ := p
    exact hd H acc sm hd' ha
/-- values that do not hang on the heap -/
theorem lc_same (w : Walk J n G (YAt xs)) (hn : n ≤ sizeLine) (hD : H1 D = none) (hG : ∀ H, Same H1 H → G H) (ys : List V) (hy : ys.length = n)
    (hs : ∀ (i : Nat) (x y : V) (H : Hp) (Φ : V → Hp → Prop) (Ψ : Hp → Prop), xs[i]? = some x → ys[i]? = some y → Same H1 H → (∀ H4, Same H H4 → Φ y H4) →
      g x (wipe σ vs) H fun σ2 H2 => wipe σ2 vs = wipe σ vs ∧ tt σ2 H2 fun b H3 => if b = true then te σ2 H3 Φ else Ψ H3)
    (hd : ∀ H, Same H1 H → H D = some (.lst ys) → Qd H) :
    ∃ W : Nat → Nat → Hp → Prop, (∃ m, W 0 m (upd H1 D (.lst []))) ∧ ∀ i m H, W i m H →
      (J.stop i H ∧ Qd H) ∨ (J.go i H ∧ ∃ Nx : Hp → Prop, (∀ H', Nx H' → ∃ m', m' < m ∧ W (i + 1) m' H') ∧ ∀ x H', J.yld i H x H' → g x (wipe σ vs) H' fun σ2 H2 => wipe σ2 vs = wipe σ vs ∧ tt σ2 H2 fun b H3 =>
        if b = true then te σ2 H3 fun y H4 => ∃ acc, H4 D = some (.lst acc) ∧ acc.length < sizeLine ∧ Nx (upd H4 D (.lst (acc ++ [y]))) else Nx H3) := by
  refine lc_acc w hn hD hG (fun i acc _ => acc = ys.take i) (fun i acc H e => by rw [e, List.length_take]; omega) (by rw [List.take_zero]) (fun i x H acc Φ Ψ hi hx sm hd' ha k => ?_) fun H acc sm hd' ha => hd H sm ?_
  · have hi' : i < ys.length := by omega
    have ey : ys[i]? = some ys[i] := List.getElem?_eq_getElem hi'
    refine hs i x ys[i] H Φ Ψ hx ey sm fun H4 s4 => k _ H4 s4 (s4 _ _ hd') fun H5 _ _ _ => ?_
    rw [ha, List.take_add_one, ey]
    rfl
  · rw [hd', ha, ← hy, List.take_length]
end
/-! ### x in an instance with the own method -/
section
variable {X : Cx} {CX : CXT} {k : Nat} {C f : Addr} {fd : FuncData} {ps : List Str} {sp : Sp} {E : XK}
theorem op_inOwn (hs : PySem.W.findIn X.K (.ref C) "__contains__" = some (some (.ref f))) (hf : PySem.W.isFn X.K (.ref f) = true) (F : FnOk X.prog X.w X.K X.mg X.base CX k f fd ps sp) (hr : Room k X.A) (hb : Binds X.K fd ps []) (hx : Passes CX X E) :
    OpR X (compareOp .In) (fun x y H Q => ∃ a dx fs, y = .ref a ∧ H a = some (.ins C dx fs) ∧ sp [.ref a, x] H (fun v H' => ∃ b, v = .bl b ∧ Q (.bl b) H') E) := by
  intro pins s σ H x y v u Q I rx ry h
  obtain ⟨a, dx, fs, rfl, ha, q⟩ := h
  cases ry
  obtain ⟨mA, J, _⟩ := ins_get I.hok ha
  obtain ⟨od, J, _⟩ := J.look
  obtain ⟨m, hF⟩ := I.fr
  refine PySem.W.in_K hF I.ok.mod.kin J hs hf ?_
  refine wpAny_mono (run_fn (us := [.ref a, v]) (vs := [.ref a, x]) F hr hb .nil hx I (.cons rfl (.cons rx .nil)) q) (fun w s' z => ?_) fun _ _ z => z
  obtain ⟨v', H', I', rv, b, rfl, q'⟩ := z
  cases rv
  exact wpAny_truthy_bool ⟨.bl b, H', I', rfl, q'⟩
theorem op_notInOwn (hs : PySem.W.findIn X.K (.ref C) "__contains__" = some (some (.ref f))) (hf : PySem.W.isFn X.K (.ref f) = true) (F : FnOk X.prog X.w X.K X.mg X.base CX k f fd ps sp) (hr : Room k X.A) (hb : Binds X.K fd ps []) (hx : Passes CX X E) :
    OpR X (compareOp .NotIn) (fun x y H Q => ∃ a dx fs, y = .ref a ∧ H a = some (.ins C dx fs) ∧ sp [.ref a, x] H (fun v H' => ∃ b, v = .bl b ∧ Q (.bl (!b)) H') E) := by
  intro pins s σ H x y v u Q I rx ry h
  obtain ⟨a, dx, fs, rfl, ha, q⟩ := h
  cases ry
  obtain ⟨mA, J, _⟩ := ins_get I.hok ha
  obtain ⟨od, J, _⟩ := J.look
  obtain ⟨m, hF⟩ := I.fr
  refine PySem.W.notIn_K hF I.ok.mod.kin J hs hf ?_
  refine wpAny_mono (run_fn (us := [.ref a, v]) (vs := [.ref a, x]) F hr hb .nil hx I (.cons rfl (.cons rx .nil)) q) (fun w s' z => ?_) fun _ _ z => z
  obtain ⟨v', H', I', rv, b, rfl, q'⟩ := z
  cases rv
  exact wpAny_truthy_bool ⟨.bl (!b), H', I', rfl, q'⟩
end
end L2

set_option maxHeartbeats 2000000
namespace L2
open PySem PySem.Spec PyProof.Rows RZ
/-! ### zip, slices of lists and tuples -/
theorem walk_zipT {K : PySem.W.Frag} {a b : Addr} {xs ys : List V} {n : Nat} (hn : n = min xs.length ys.length) : Walk (ItzT K a b) n (fun H => SqT K H a xs ∧ SqT K H b ys) (YPair (fun i => xs[i]?) (fun i => ys[i]?)) :=
  ⟨fun i H hi q => ⟨xs, ys, xs[i]'(by omega), ys[i]'(by omega), q.1, q.2, List.getElem?_eq_getElem _, List.getElem?_eq_getElem _⟩,
    fun H q => ⟨xs, ys, q.1, q.2, by omega⟩, fun i H v H' hi q y => by
      obtain ⟨T, x, y', rfl, hT, rfl, f1, f2⟩ := y
      exact ⟨T, x, y', rfl, hT, rfl, f1 xs q.1, f2 ys q.2⟩⟩
def ItZk (K : PySem.W.Frag) (k : Kind) (a b : Addr) : It := match k with
  | .l => Itz K a b
  | .t => ItzT K a b
theorem walk_zk {K : PySem.W.Frag} {k : Kind} {a b : Addr} {xs ys : List V} {n : Nat} (hn : n = min xs.length ys.length) : Walk (ItZk K k a b) n (fun H => Sk K k H a xs ∧ Sk K k H b ys) (YPair (fun i => xs[i]?) (fun i => ys[i]?)) := by
  cases k
  · exact walk_zip hn
  · exact walk_zipT hn
theorem zip_k {K : PySem.W.Frag} {k : Kind} {H : Hp} {a b : Addr} {xs ys : List V} {R : It → Hp → Prop} (ha : Sk K k H a xs) (hb : Sk K k H b ys) (h : R (ItZk K k a b) H) :
    (SqL K H a xs ∧ SqL K H b ys ∧ R (Itz K a b) H) ∨ (SqT K H a xs ∧ SqT K H b ys ∧ R (ItzT K a b) H) := by
  cases k
  · exact .inl ⟨ha, hb, h⟩
  · exact .inr ⟨ha, hb, h⟩
theorem cut_all {xs : List V} {lo hi : Option Int} (h : HT.sIx xs.length 0 lo = 0 ∧ HT.sIx xs.length xs.length hi = xs.length) : cutV xs lo hi = xs := by
  unfold cutV
  rw [h.1, h.2, List.drop_zero, Nat.sub_zero, List.take_length]
theorem sl_k {K : PySem.W.Frag} {k : Kind} {H : Hp} {a : Addr} {xs : List V} {lo hi : Option Int} {Q : V → Hp → Prop} (ha : Sk K k H a xs) (h : ∀ p H', Same H H' → Sk K k H' p (cutV xs lo hi) → Q (.ref p) H') :
    rSlL K (.ref a) lo hi H Q ∨ rSlA K (.ref a) lo hi H Q := by
  cases k
  · exact .inl ⟨a, xs, rfl, ha, fun p hp => h p _ (new_ hp) (SqL.of upd_same)⟩
  · exact .inr ⟨a, xs, rfl, ha, fun w => h a H (fun _ _ e => e) (by rw [cut_all w]; exact ha), fun _ p hp => h p _ (new_ hp) (SqT.of upd_same)⟩
theorem cut_1 (xs : List V) : cutV xs (some (1 : Int)) none = xs.drop 1 := by
  unfold cutV
  rw [show (1 : Int) = ((1 : Nat) : Int) from rfl, HT.sIx_nat, HT.sIx_none]
  rcases Nat.eq_zero_or_pos xs.length with h | h
  · have : xs = [] := List.length_eq_zero_iff.mp h
    subst this
    rfl
  · rw [Nat.min_eq_left h, List.take_of_length_le (by rw [List.length_drop]; exact Nat.le_refl _)]
theorem cut_to (xs : List V) (n : Nat) : cutV xs none (some (n : Int)) = xs.take n := by
  unfold cutV
  rw [HT.sIx_nat, HT.sIx_none, List.drop_zero, Nat.sub_zero]
  rcases Nat.le_total n xs.length with h | h
  · rw [Nat.min_eq_left h]
  · rw [Nat.min_eq_right h, List.take_length, List.take_of_length_le h]
/-! ### small words -/
theorem take_succ' {α : Type} {l : List α} {i : Nat} {x : α} (h : l[i]? = some x) : l.take (i + 1) = l.take i ++ [x] := by
  rw [List.take_add_one, h]
  rfl
theorem ifD_no {p A B : Prop} [Decidable p] (h : ¬ p) (q : B) : if decide p = true then A else B := by
  rw [decide_eq_false h]
  exact iteF q
theorem ifD_yes {p A B : Prop} [Decidable p] (h : p) (q : A) : if decide p = true then A else B := by
  rw [decide_eq_true h]
  exact iteT q
theorem ifD_2 {p A B : Prop} [Decidable p] (h1 : p → A) (h2 : ¬ p → B) : if decide p = true then A else B := by
  by_cases h : p
  · exact ifD_yes h (h1 h)
  · exact ifD_no h (h2 h)
theorem ifB_2 {b : Bool} {A B : Prop} (h1 : b = true → A) (h2 : b = false → B) : if b = true then A else B := by
  cases b
  · exact iteF (h2 rfl)
  · exact iteT (h1 rfl)
theorem Same.none {H H' : Hp} {x : Addr} (s : Same H H') (h : H' x = Option.none) : H x = Option.none := by
  cases e : H x with
  | none => rfl
  | some o => rw [s _ _ e] at h; cases h
theorem all_true (n : Nat) : (List.replicate n true).all id = true := by
  rw [List.all_eq_true]
  intro x hx
  rw [(List.mem_replicate.mp hx).2]
  rfl
theorem boot_isi : bootBuiltins "isinstance" = some (.builtin "isinstance") := by decide +kernel
theorem boot_int' : bootBuiltins "int" = some (.type "int") := by decide +kernel
theorem boot_bool' : bootBuiltins "bool" = some (.type "bool") := by decide +kernel
theorem boot_tuple' : bootBuiltins "tuple" = some (.type "tuple") := by decide +kernel
theorem boot_list' : bootBuiltins "list" = some (.type "list") := by decide +kernel
theorem boot_all' : bootBuiltins "all" = some (.builtin "all") := by decide +kernel
structure Df (K : PySem.W.Frag) (mg : Str → Option Value) (x : Str) (st : Stmt) (f : Addr) (fd : FuncData) (ps : List Str) : Prop where
  F : Fun K x x st f fd
  B : Binds K fd ps []
  M : mg x = some (.ref f)
def rTupK (K : PySem.W.Frag) : List V → Hp → (V → Hp → Prop) → Prop := fun xs H Q => ∃ p ys, xs = [.ref p] ∧ ((SqL K H p ys ∧ ∀ l, H l = none → Q (.ref l) (upd H l (.tup ys))) ∨ (SqT K H p ys ∧ Q (.ref p) H))
theorem call_tupleK {X : Cx} {K : PySem.W.Frag} (h : X.K = K) : CallR X (.type "tuple") (rTupK K) := h ▸ call_tuple_of
def rLstK (K : PySem.W.Frag) : List V → Hp → (V → Hp → Prop) → Prop := fun xs H Q => ∃ p ys, xs = [.ref p] ∧ (SqL K H p ys ∨ SqT K H p ys) ∧ ∀ l, H l = none → Q (.ref l) (upd H l (.lst ys))
theorem call_listK {X : Cx} {K : PySem.W.Frag} (h : X.K = K) : CallR X (.type "list") (rLstK K) := h ▸ call_list_of
def rLenK (K : PySem.W.Frag) : List V → Hp → (V → Hp → Prop) → Prop := fun xs H Q => ∃ p ys, xs = [.ref p] ∧ (SqL K H p ys ∨ SqT K H p ys) ∧ Q (.int ys.length) H
theorem call_lenK {X : Cx} {K : PySem.W.Frag} (h : X.K = K) : CallR X (.builtin "len") (rLenK K) := h ▸ call_len_seq
def rIxTK (K : PySem.W.Frag) : R2 := fun x y H Q => ∃ p xs i v, x = .ref p ∧ y = .int i ∧ SqT K H p xs ∧ atI xs i = some v ∧ Q v H
theorem ix_tupK {X : Cx} {K : PySem.W.Frag} (h : X.K = K) : IxR X (rIxTK K) := h ▸ ix_tup
/-! ### what stands at each place of a list of references -/
def Ea {α : Type} (H : Hp) (P : Hp → Addr → α → Prop) (xs : List V) (ds : List α) : Prop := xs.length = ds.length ∧ ∀ (i : Nat) (x : V) (r : α), xs[i]? = some x → ds[i]? = some r → ∃ c, x = .ref c ∧ P H c r
section
variable {α : Type} {H H' : Hp} {P P' : Hp → Addr → α → Prop} {xs ys : List V} {ds es : List α} {c : Addr} {r : α}
theorem Ea.imp (e : Ea H P xs ds) (f : ∀ c r, P H c r → P' H' c r) : Ea H' P' xs ds := ⟨e.1, fun i x r h1 h2 => let ⟨c, hx, q⟩ := e.2 i x r h1 h2; ⟨c, hx, f c r q⟩⟩
theorem Ea.nil : Ea H P [] [] := ⟨rfl, fun i x r h _ => by simp at h⟩
theorem Ea.append (e : Ea H P xs ds) (e' : Ea H P ys es) : Ea H P (xs ++ ys) (ds ++ es) := by
  refine ⟨by rw [List.length_append, List.length_append, e.1, e'.1], fun i x r h1 h2 => ?_⟩
  rcases Nat.lt_or_ge i xs.length with hi | hi
  · rw [List.getElem?_append_left hi] at h1
    rw [List.getElem?_append_left (by rw [← e.1]; exact hi)] at h2
    exact e.2 i x r h1 h2
  · rw [List.getElem?_append_right hi] at h1
    rw [List.getElem?_append_right (by rw [← e.1]; exact hi), ← e.1] at h2
    exact e'.2 _ x r h1 h2
theorem Ea.one (q : P H c r) : Ea H P [.ref c] [r] := by
  refine ⟨rfl, fun i x r' h1 h2 => ?_⟩
  match i, h1, h2 with
  | 0, h1, h2 =>
    cases h1
    cases h2
    exact ⟨c, rfl, q⟩
  | (j + 1), h1, _ => simp at h1
theorem Ea.push (e : Ea H P xs ds) (q : P H c r) : Ea H P (xs ++ [.ref c]) (ds ++ [r]) := e.append (.one q)
theorem Ea.get (e : Ea H P xs ds) {i : Nat} {r : α} (h : ds[i]? = some r) : ∃ c, xs[i]? = some (.ref c) ∧ P H c r := by
  have hi : i < xs.length := by rw [e.1]; exact (List.getElem?_eq_some_iff.mp h).1
  obtain ⟨c, hc, q⟩ := e.2 i _ r (List.getElem?_eq_getElem hi) h
  exact ⟨c, by rw [List.getElem?_eq_getElem hi, hc], q⟩
theorem Ea.at_ (e : Ea H P xs ds) {i : Nat} {x : V} (h : xs[i]? = some x) : ∃ c r, x = .ref c ∧ ds[i]? = some r ∧ P H c r := by
  have hi : i < ds.length := by rw [← e.1]; exact (List.getElem?_eq_some_iff.mp h).1
  obtain ⟨c, hc, q⟩ := e.2 i _ _ h (List.getElem?_eq_getElem hi)
  exact ⟨c, _, hc, List.getElem?_eq_getElem hi, q⟩
end
/-- a tuple at c of what r is written as -/
def TupOf {α : Type} (f : α → List V) (H : Hp) (c : Addr) (r : α) : Prop := H c = some (.tup (f r))
section
variable {α : Type} {f : α → List V} {H H' : Hp} {xs : List V} {ds : List α} {c p C dx : Addr} {r : α}
theorem TupOf.lst {ys zs : List V} (q : TupOf f H c r) (hD : H p = some (.lst ys)) : TupOf f (upd H p (.lst zs)) c r := by
  unfold TupOf
  rw [upd_ne (ne_of (H := H) q hD (by intro z; cases z))]
  exact q
theorem TupOf.ins {fs : List (Str × V)} {o : HO} (q : TupOf f H c r) (hp : H p = some (.ins C dx fs)) : TupOf f (upd H p o) c r := by
  unfold TupOf
  rw [upd_ne (ne_of (H := H) q hp (by intro z; cases z))]
  exact q
theorem TupOf.but {ys : List V} (q : TupOf f H c r) (hD : H p = some (.lst ys)) (b : But p H H') : TupOf f H' c r := b _ _ (ne_of (H := H) q hD (by intro z; cases z)) q
theorem Ea.same (e : Ea H (TupOf f) xs ds) (s : Same H H') : Ea H' (TupOf f) xs ds := e.imp fun c r q => s _ _ q
end
end L2

set_option maxHeartbeats 2000000
namespace PA
/-- below 2 ^ n in size -/
abbrev Sm (n : Nat) (x : Int) : Prop := x.natAbs < 2 ^ n
theorem Sm.mono {n m : Nat} {x : Int} (h : Sm n x) (hn : n ≤ m) : Sm m x := Nat.lt_of_lt_of_le h (Nat.pow_le_pow_right (by decide) hn)
theorem Sm.mul {n m k : Nat} {x y : Int} (hx : Sm n x) (hy : Sm m y) (h : n + m ≤ k) : Sm k (x * y) := by
  refine Sm.mono (n := n + m) ?_ h
  unfold Sm
  rw [Int.natAbs_mul, Nat.pow_add]
  exact Nat.mul_lt_mul'' hx hy
theorem Sm.add {n k : Nat} {x y : Int} (hx : Sm n x) (hy : Sm n y) (h : n + 1 ≤ k) : Sm k (x + y) := by
  refine Sm.mono (n := n + 1) ?_ h
  unfold Sm at *
  rw [Nat.pow_succ]
  omega
theorem Sm.sub {n k : Nat} {x y : Int} (hx : Sm n x) (hy : Sm n y) (h : n + 1 ≤ k) : Sm k (x - y) := by
  refine Sm.mono (n := n + 1) ?_ h
  unfold Sm at *
  rw [Nat.pow_succ]
  omega
theorem Sm.neg {n : Nat} {x : Int} (hx : Sm n x) : Sm n (-x) := by
  unfold Sm at *
  rw [Int.natAbs_neg]
  exact hx
theorem Sm.le {n : Nat} {x y : Int} (hx : Sm n x) (h : y.natAbs ≤ x.natAbs) : Sm n y := Nat.lt_of_le_of_lt h hx
theorem Sm.one {n : Nat} (h : 0 < n) : Sm n 1 := by
  show (1 : Int).natAbs < 2 ^ n
  exact Nat.one_lt_two_pow (by omega)

/-- the divisor that a Ratio shortens by -/
def shr (t b : Int) : Int := if b < 0 then -((Nat.gcd t.natAbs b.natAbs : Nat) : Int) else ((Nat.gcd t.natAbs b.natAbs : Nat) : Int)
/-- lowest terms -/
structure Low (T B : Int) : Prop where
  pos : 0 < B
  cop : Nat.gcd T.natAbs B.natAbs = 1
theorem low_one (i : Int) : Low i 1 := ⟨by decide, Nat.gcd_one_right _⟩
theorem gcd_key {a b c d g : Nat} (h1 : a = c * g) (h2 : b = d * g) : Nat.gcd a b = Nat.gcd c d * g := by
  rw [h1, h2]
  exact Nat.gcd_mul_right _ _ _
theorem rat_mk {t b : Int} (hb : b ≠ 0) : shr t b ≠ 0 ∧ (shr t b).natAbs ≤ b.natAbs ∧ Low (t.fdiv (shr t b)) (b.fdiv (shr t b)) ∧ (t.fdiv (shr t b)) * b = t * (b.fdiv (shr t b)) ∧
    (t.fdiv (shr t b)).natAbs ≤ t.natAbs ∧ (b.fdiv (shr t b)).natAbs ≤ b.natAbs := by
  have hg : 0 < Nat.gcd t.natAbs b.natAbs := Nat.gcd_pos_of_pos_right _ (Int.natAbs_pos.mpr hb)
  have hgb : Nat.gcd t.natAbs b.natAbs ≤ b.natAbs := Nat.gcd_le_right _ (Int.natAbs_pos.mpr hb)
  have hsn : (shr t b).natAbs = Nat.gcd t.natAbs b.natAbs := by
    unfold shr
    split
    · rw [Int.natAbs_neg, Int.natAbs_natCast]
    · rw [Int.natAbs_natCast]
  have hs0 : shr t b ≠ 0 := by
    intro z
    rw [z] at hsn
    simp at hsn
    omega
  have dv : ∀ y : Int, (Nat.gcd t.natAbs b.natAbs) ∣ y.natAbs → ∃ q : Int, y = q * shr t b := by
    intro y hy
    have h1 : ((Nat.gcd t.natAbs b.natAbs : Nat) : Int) ∣ y := Int.ofNat_dvd_left.mpr hy
    obtain ⟨q, hq⟩ := h1
    unfold shr
    split
    · exact ⟨-q, by rw [Int.neg_mul_neg, Int.mul_comm]; exact hq⟩
    · exact ⟨q, by rw [Int.mul_comm]; exact hq⟩
  obtain ⟨T, hT⟩ := dv t (Nat.gcd_dvd_left _ _)
  obtain ⟨B, hB⟩ := dv b (Nat.gcd_dvd_right _ _)
  have eT : t.fdiv (shr t b) = T := by
    conv => lhs; lhs; rw [hT]
    exact Int.mul_fdiv_cancel _ hs0
  have eB : b.fdiv (shr t b) = B := by
    conv => lhs; lhs; rw [hB]
    exact Int.mul_fdiv_cancel _ hs0
  rw [eT, eB]
  have nT : t.natAbs = T.natAbs * Nat.gcd t.natAbs b.natAbs := by
    conv => lhs; rw [hT, Int.natAbs_mul, hsn]
  have nB : b.natAbs = B.natAbs * Nat.gcd t.natAbs b.natAbs := by
    conv => lhs; rw [hB, Int.natAbs_mul, hsn]
  refine ⟨hs0, by rw [hsn]; exact hgb, ⟨?_, ?_⟩, ?_, ?_, ?_⟩
  · have hB0 : B ≠ 0 := by
      intro z
      rw [z, Int.zero_mul] at hB
      exact hb hB
    rcases Int.lt_or_gt_of_ne hB0 with h | h
    · exfalso
      unfold shr at hB
      split at hB
      · rename_i hneg
        have : 0 < B * -((Nat.gcd t.natAbs b.natAbs : Nat) : Int) := Int.mul_pos_of_neg_of_neg h (by omega)
        omega
      · rename_i hneg
        have : B * ((Nat.gcd t.natAbs b.natAbs : Nat) : Int) < 0 := Int.mul_neg_of_neg_of_pos h (by omega)
        omega
    · exact h
  · have e : Nat.gcd t.natAbs b.natAbs = Nat.gcd T.natAbs B.natAbs * Nat.gcd t.natAbs b.natAbs := by
      exact gcd_key nT nB
    have e2 : 1 * Nat.gcd t.natAbs b.natAbs = Nat.gcd T.natAbs B.natAbs * Nat.gcd t.natAbs b.natAbs := by rw [Nat.one_mul]; exact e
    exact (Nat.eq_of_mul_eq_mul_right hg e2).symm
  · calc T * b = T * (B * shr t b) := by rw [← hB]
      _ = (T * shr t b) * B := by rw [Int.mul_comm B, ← Int.mul_assoc]
      _ = t * B := by rw [← hT]
  · rw [nT]; exact Nat.le_mul_of_pos_right _ hg
  · rw [nB]; exact Nat.le_mul_of_pos_right _ hg
/-- a fraction has one lowest form -/
theorem Low.uniq {T B T' B' : Int} (h : Low T B) (h' : Low T' B') (e : T * B' = T' * B) : T = T' ∧ B = B' := by
  have n : T.natAbs * B'.natAbs = T'.natAbs * B.natAbs := by rw [← Int.natAbs_mul, ← Int.natAbs_mul, e]
  have d1 : B.natAbs ∣ B'.natAbs := by
    have : B.natAbs ∣ T.natAbs * B'.natAbs := ⟨T'.natAbs, by rw [n, Nat.mul_comm]⟩
    exact (Nat.Coprime.symm h.cop).dvd_of_dvd_mul_left this
  have d2 : B'.natAbs ∣ B.natAbs := by
    have : B'.natAbs ∣ T'.natAbs * B.natAbs := ⟨T.natAbs, by rw [← n, Nat.mul_comm]⟩
    exact (Nat.Coprime.symm h'.cop).dvd_of_dvd_mul_left this
  have eB : B = B' := by
    have := Nat.dvd_antisymm d1 d2
    have p1 := h.pos
    have p2 := h'.pos
    omega
  subst eB
  have hB : B ≠ 0 := by have := h.pos; omega
  exact ⟨Int.eq_of_mul_eq_mul_right hB e, rfl⟩
theorem Low.neg {T B : Int} (h : Low T B) : Low (-T) B := ⟨h.pos, by rw [Int.natAbs_neg]; exact h.cop⟩
/-- a = n / d and b = n / d -/
theorem cross {a b n d x y : Int} (hb : b ≠ 0) (h1 : a * d = n * b) (h2 : n * y = x * d) (hd : d ≠ 0) : a * y = x * b := by
  have : (a * y) * d = (x * b) * d := by
    calc (a * y) * d = (a * d) * y := by rw [Int.mul_assoc, Int.mul_comm y, ← Int.mul_assoc]
      _ = (n * b) * y := by rw [h1]
      _ = (n * y) * b := by rw [Int.mul_assoc, Int.mul_comm b, ← Int.mul_assoc]
      _ = (x * d) * b := by rw [h2]
      _ = (x * b) * d := by rw [Int.mul_assoc, Int.mul_comm d, ← Int.mul_assoc]
  exact Int.eq_of_mul_eq_mul_right hd this
end PA

set_option maxHeartbeats 4000000
/-! texts: the parts of what was joined -/
namespace TS
open PySem PySem.StrLaws
/-- the code points -/
abbrev cs (x : Str) : List Nat := x.cps.toList
theorem cs_app (x y : Str) : cs (x ++ y) = cs x ++ cs y := by
  show (x.cps ++ y.cps).toList = _
  simp
theorem cs_inj {x y : Str} (h : cs x = cs y) : x = y := by
  cases x with
  | mk a =>
    cases y with
    | mk b => exact congrArg Str.mk (Array.toList_inj.mp h)
theorem cs_len (x : Str) : x.length = (cs x).length := by
  show x.cps.size = _
  simp
theorem at_get {x sub : Str} {i : Nat} (h : At x sub x.length i) {j : Nat} (hj : j < (cs sub).length) : (cs x)[i + j]? = (cs sub)[j]? := by
  obtain ⟨_, h2⟩ := h
  rw [subAt_eq] at h2
  have e : List.take sub.length (List.drop i (cs x)) = cs sub := by simpa using h2
  rw [← e, List.getElem?_take, if_pos (by rw [cs_len]; exact hj), List.getElem?_drop]
theorem at_of {x sub : Str} {pre post : List Nat} (h : cs x = pre ++ cs sub ++ post) : At x sub x.length pre.length := by
  refine ⟨?_, ?_⟩
  · rw [cs_len x, h, cs_len sub]
    simp
  · rw [subAt_eq]
    have : List.take sub.length (List.drop pre.length (cs x)) = cs sub := by
      rw [h, List.append_assoc, List.drop_left, cs_len, List.take_left]
    simpa using this
theorem sub_mid {x : Str} {pre mid post : List Nat} (h : cs x = pre ++ mid ++ post) {y : Str} (hy : cs y = mid) : Builtin.Str.strSub x pre.length (pre.length + mid.length) = y := by
  apply cs_inj
  show (Builtin.Str.strSub x pre.length (pre.length + mid.length)).cps.toList = _
  rw [strSub_toList, hy, show x.cps.toList = pre ++ mid ++ post from h]
  rw [show pre.length + mid.length - pre.length = mid.length from by omega, List.append_assoc, List.drop_left, List.take_left]
theorem sub_all (x : Str) : Builtin.Str.strSub x 0 x.length = x := by
  have := sub_mid (x := x) (pre := []) (mid := cs x) (post := []) (by simp) rfl
  rw [cs_len]
  simpa using this
theorem join_two (sep y z : Str) (r : List Str) : sep.join (y :: z :: r) = y ++ sep ++ sep.join (z :: r) := Str.join.eq_3 _ _ _ (by simp)
theorem chain_parts {x sep : Str} {c0 : Nat} {t : List Nat} (hsep : cs sep = c0 :: t) : ∀ (ys : List Str) (pre : List Nat) (cuts : List Nat) (f : Nat), ys ≠ [] → cs x = pre ++ cs (sep.join ys) → (∀ y ∈ ys, c0 ∉ cs y) →
    ChainG x sep x.length pre.length cuts f → (∀ k, f ≤ k → ¬ At x sep x.length k) → partsFrom x sep.length pre.length cuts = ys
  | [], _, _, _, h, _, _, _, _ => absurd rfl h
  | [y], pre, cuts, f, _, hx, hf, hc, hn => by
    rw [Str.join.eq_2] at hx
    cases cuts with
    | nil =>
      rw [partsFrom.eq_1]
      have e := sub_mid (x := x) (pre := pre) (mid := cs y) (post := []) (by simpa using hx) rfl
      have el : x.length = pre.length + (cs y).length := by rw [cs_len x, hx, List.length_append]
      rw [el, e]
    | cons c r =>
      rw [ChainG.eq_2] at hc
      obtain ⟨h1, h2, _⟩ := hc
      have h3 := at_get h2 (j := 0) (by rw [hsep]; simp)
      rw [hsep, Nat.add_zero, hx, List.getElem?_append_right h1] at h3
      exact absurd (List.mem_of_getElem? h3) (hf y (by simp))
  | y :: z :: r, pre, cuts, f, _, hx, hf, hc, hn => by
    rw [join_two, cs_app, cs_app] at hx
    have hat : At x sep x.length (pre.length + (cs y).length) := by
      have := at_of (x := x) (sub := sep) (pre := pre ++ cs y) (post := cs (sep.join (z :: r))) (by rw [hx]; simp)
      simpa using this
    have hno : ∀ k, pre.length ≤ k → k < pre.length + (cs y).length → ¬ At x sep x.length k := by
      intro k k1 k2 h2
      have h3 := at_get h2 (j := 0) (by rw [hsep]; simp)
      rw [hsep, Nat.add_zero, hx, List.getElem?_append_right k1, List.append_assoc, List.getElem?_append_left (by omega)] at h3
      exact hf y (by simp) (List.mem_of_getElem? h3)
    cases cuts with
    | nil =>
      rw [ChainG.eq_1] at hc
      exact absurd hat (hn _ (by omega))
    | cons c r' =>
      rw [ChainG.eq_2] at hc
      obtain ⟨h1, h2, h3, h4⟩ := hc
      have ec : c = pre.length + (cs y).length := by
        rcases Nat.lt_trichotomy c (pre.length + (cs y).length) with q | q | q
        · exact absurd h2 (hno c h1 q)
        · exact q
        · exact absurd hat (h3 _ (by omega) q)
      subst ec
      rw [partsFrom.eq_2]
      have e := sub_mid (x := x) (pre := pre) (mid := cs y) (post := cs sep ++ cs (sep.join (z :: r))) (by rw [hx]; simp) rfl
      rw [e]
      have hp : pre.length + (cs y).length + sep.length = (pre ++ cs y ++ cs sep).length := by rw [cs_len sep]; simp only [List.length_append]
      rw [hp] at h4 ⊢
      rw [chain_parts hsep (z :: r) (pre ++ cs y ++ cs sep) r' f (by simp) (by rw [hx]; simp) (fun y' hy' => hf y' (List.mem_cons_of_mem _ hy')) h4 hn]
theorem kind_pos (x : Str) : 1 ≤ Builtin.Str.strKind x := by
  unfold Builtin.Str.strKind
  split
  · exact Nat.le_refl _
  · split <;> omega
theorem split_join {sep : Str} {c0 : Nat} {t : List Nat} (hsep : cs sep = c0 :: t) (hk : Builtin.Str.strKind sep = 1) {ys : List Str} (h0 : ys ≠ []) (hf : ∀ y ∈ ys, c0 ∉ cs y) : Txt.split (Txt.join sep ys) sep = ys := by
  have ej : Txt.join sep ys = sep.join ys := glued_eq_join sep ys
  rw [ej]
  generalize hx : sep.join ys = x
  have h1 : 1 ≤ sep.length := by rw [cs_len, hsep]; simp
  obtain ⟨f, hc, hn⟩ := occ_tight x sep h1
  have hp := chain_parts (x := x) hsep ys [] _ f h0 (by rw [hx]; rfl) hf hc hn
  unfold Txt.split
  have k1 := kind_pos x
  by_cases hl : x.length < sep.length
  · rw [decide_eq_true hl, Bool.true_or, if_pos rfl]
    match ys, h0 with
    | [y], _ => rw [← hx, Str.join.eq_2]
    | y :: z :: r, _ =>
      rw [join_two] at hx
      rw [← hx, cs_len, cs_app, cs_app, cs_len sep] at hl
      simp only [List.length_append] at hl
      omega
  · rw [decide_eq_false hl, decide_eq_false (by omega : ¬ Builtin.Str.strKind x < Builtin.Str.strKind sep), Bool.false_or, if_neg (by simp)]
    split
    · rename_i he
      have e := List.isEmpty_iff.mp he
      rw [e] at hp
      rw [partsFrom.eq_1] at hp
      rw [← hp]
      show [x] = [Builtin.Str.strSub x 0 x.length]
      rw [sub_all]
    · rw [partsBetween_eq]
      exact hp
theorem partition_at {x a sep c : Str} (hx : cs x = cs a ++ cs sep ++ cs c) (hn : ∀ k, k < (cs a).length → ¬ At x sep x.length k) : Txt.partition x sep = (a, sep, c) := by
  have hat : At x sep x.length (cs a).length := at_of hx
  unfold Txt.partition
  rcases occ_head x sep 1 (Nat.le_refl _) with ⟨e, no⟩ | ⟨i, r, e, h1, h2⟩
  · exact absurd hat (no _)
  · rw [e]
    have ei : i = (cs a).length := by
      rcases Nat.lt_trichotomy i (cs a).length with q | q | q
      · exact absurd h1 (hn i q)
      · exact q
      · exact absurd hat (h2 _ q)
    subst ei
    have e1 := sub_mid (x := x) (pre := []) (mid := cs a) (post := cs sep ++ cs c) (by rw [hx]; simp) rfl
    have e2 := sub_mid (x := x) (pre := cs a ++ cs sep) (mid := cs c) (post := []) (by rw [hx]; simp) rfl
    simp only [List.length_nil, Nat.zero_add] at e1
    have el : x.length = (cs a ++ cs sep).length + (cs c).length := by rw [cs_len x, hx]; simp only [List.length_append]
    show (Builtin.Str.strSub x 0 (cs a).length, sep, Builtin.Str.strSub x ((cs a).length + sep.length) x.length) = _
    rw [e1, el, cs_len sep, ← List.length_append, e2]
theorem partition_no {x sep : Str} (hn : ∀ k, ¬ At x sep x.length k) : Txt.partition x sep = (x, Str.empty, Str.empty) := by
  unfold Txt.partition
  rcases occ_head x sep 1 (Nat.le_refl _) with ⟨e, no⟩ | ⟨i, r, e, h1, h2⟩
  · rw [e]
  · exact absurd h1 (hn i)
end TS

set_option maxHeartbeats 4000000
/-! the texts of row sets -/
namespace TS
open PySem PySem.StrLaws
def numS (n : Nat) : Str := Str.ofString (toString ((n : Nat) : Int))
/-- neither a blank nor a semicolon -/
def okw (w : Str) : Bool := (cs w).all fun c => c != 32 && c != 59
theorem num48 : ∀ n : Fin 48, (okw (numS n) && decide ((numS n).length ≤ 2) && Txt.isascii (numS n) && Txt.isdigit (numS n) && decide (intText? (numS n) = some ((n : Nat) : Int)) && decide (numS n ≠ "-")) = true := by decide +kernel
theorem num_ok {n : Nat} (h : n < 48) : okw (numS n) = true ∧ (numS n).length ≤ 2 ∧ Txt.isascii (numS n) = true ∧ Txt.isdigit (numS n) = true ∧ intText? (numS n) = some (n : Int) ∧ numS n ≠ "-" := by
  have q := num48 ⟨n, h⟩
  simp only [Bool.and_eq_true, decide_eq_true_eq] at q
  exact ⟨q.1.1.1.1.1, q.1.1.1.1.2, q.1.1.1.2, q.1.1.2, q.1.2, q.2⟩
theorem dash_ok : okw "-" = true ∧ (("-" : Str)).length ≤ 2 ∧ Txt.isdigit "-" = false := by decide +kernel
theorem digit_ascii : ∀ c : Fin 128, Unicode.isDigit (c : Nat) = (decide (48 ≤ (c : Nat)) && decide ((c : Nat) ≤ 57)) := by decide +kernel
theorem one_digit : ∀ a : Fin 10, intText? ⟨#[48 + (a : Nat)]⟩ = some ((a : Nat) : Int) := by decide +kernel
theorem two_digits : ∀ a b : Fin 10, intText? ⟨#[48 + (a : Nat), 48 + (b : Nat)]⟩ = some ((10 * (a : Nat) + (b : Nat) : Nat) : Int) := by decide +kernel
theorem fig {c : Nat} (h1 : c < 128) (h2 : Unicode.isDigit c = true) : ∃ a : Fin 10, c = 48 + (a : Nat) := by
  have q := digit_ascii ⟨c, h1⟩
  rw [h2] at q
  have q := q.symm
  simp only [Bool.and_eq_true, decide_eq_true_eq] at q
  exact ⟨⟨c - 48, by omega⟩, by show c = 48 + (c - 48); omega⟩
theorem read_any {w : Str} (h : w.length ≤ 2) (ha : Txt.isascii w = true) (hd : Txt.isdigit w = true) : ∃ n : Nat, n < 100 ∧ intText? w = some (n : Int) := by
  obtain ⟨a⟩ := w
  obtain ⟨l⟩ := a
  unfold Txt.isascii at ha
  unfold Txt.isdigit at hd
  have hl : l.length ≤ 2 := h
  match l, hl with
  | [], _ => simp [Str.length] at hd
  | [c], _ =>
    simp at ha hd
    obtain ⟨x, rfl⟩ := fig ha hd.2
    exact ⟨x, by omega, one_digit x⟩
  | [c, d], _ =>
    simp at ha hd
    obtain ⟨x, rfl⟩ := fig ha.1 hd.2.1
    obtain ⟨y, rfl⟩ := fig ha.2 hd.2.2
    exact ⟨10 * (x : Nat) + (y : Nat), by omega, two_digits x y⟩
/-- what read_state gives -/
def rdW (w : Str) : Option Nat := if w.length ≤ 2 ∧ Txt.isascii w = true ∧ Txt.isdigit w = true then (intText? w).map Int.toNat else none
theorem rdW_some {w : Str} (h1 : w.length ≤ 2) (h2 : Txt.isascii w = true) (h3 : Txt.isdigit w = true) : ∃ n : Nat, rdW w = some n ∧ intText? w = some (n : Int) := by
  obtain ⟨n, _, e⟩ := read_any h1 h2 h3
  exact ⟨n, by unfold rdW; rw [if_pos ⟨h1, h2, h3⟩, e]; rfl, e⟩
theorem rdW_none {w : Str} (h : ¬ (w.length ≤ 2 ∧ Txt.isascii w = true ∧ Txt.isdigit w = true)) : rdW w = none := if_neg h
abbrev Ln := Option Nat × Option Nat
def EOk (n : Nat) (o : Option Nat) : Prop := ∀ a, o = some a → a < n
def LOk (n : Nat) (l : Ln) : Prop := EOk n l.1 ∧ EOk n l.2
structure GoodL (ls : List Ln) : Prop where
  one : 1 ≤ ls.length
  most : ls.length ≤ 48
  ok : ∀ l ∈ ls, LOk ls.length l
theorem EOk.mono {n m : Nat} {o : Option Nat} (h : EOk n o) (l : n ≤ m) : EOk m o := fun a e => Nat.lt_of_lt_of_le (h a e) l
theorem LOk.mono {n m : Nat} {o : Ln} (h : LOk n o) (l : n ≤ m) : LOk m o := ⟨h.1.mono l, h.2.mono l⟩
theorem GoodL.all48 {ls : List Ln} (g : GoodL ls) : ∀ l ∈ ls, LOk 48 l := fun l h => (g.ok l h).mono g.most
theorem GoodL.ne {ls : List Ln} (g : GoodL ls) : ls ≠ [] := by
  rintro rfl
  exact absurd g.one (by decide)
def wS : Option Nat → Str
  | none => "-"
  | some n => numS n
theorem wS_ok {e : Option Nat} (h : EOk 48 e) : okw (wS e) = true ∧ (wS e).length ≤ 2 := by
  cases e with
  | none => exact ⟨dash_ok.1, dash_ok.2.1⟩
  | some n => exact ⟨(num_ok (h n rfl)).1, (num_ok (h n rfl)).2.1⟩
theorem rdW_wS {e : Option Nat} (h : EOk 48 e) : rdW (wS e) = e := by
  cases e with
  | none =>
    refine rdW_none fun z => ?_
    have q := z.2.2
    rw [show wS none = "-" from rfl, dash_ok.2.2] at q
    cases q
  | some n =>
    obtain ⟨_, h1, h2, h3, h4, _⟩ := num_ok (h n rfl)
    obtain ⟨m, e1, e2⟩ := rdW_some h1 h2 h3
    rw [h4] at e2
    have : n = m := by injection e2 with e2; omega
    rw [show wS (some n) = numS n from rfl, e1, this]
theorem wS_inj {e f : Option Nat} (h : EOk 48 e) (h' : EOk 48 f) (q : wS e = wS f) : e = f := by
  rw [← rdW_wS h, q, rdW_wS h']
def rowS (l : Ln) : Str := Str.join " " [wS l.1, wS l.2]
def txt (ls : List Ln) : Str := Str.join "; " (ls.map rowS)
theorem cs_sp : cs " " = [32] := by decide +kernel
theorem cs_semi : cs "; " = [59, 32] := by decide +kernel
theorem okw_no {w : Str} (h : okw w = true) {c : Nat} (hc : c = 32 ∨ c = 59) : c ∉ cs w := fun z => by
  have := List.all_eq_true.mp h c z
  rcases hc with rfl | rfl <;> cases this
theorem mem_join {sep : Str} {c : Nat} : ∀ {ys : List Str}, c ∈ cs (sep.join ys) → c ∈ cs sep ∨ ∃ y ∈ ys, c ∈ cs y
  | [], h => by
    rw [Str.join.eq_1] at h
    have : cs Str.empty = [] := rfl
    rw [this] at h
    cases h
  | [y], h => by
    rw [Str.join.eq_2] at h
    exact .inr ⟨y, by simp, h⟩
  | y :: z :: r, h => by
    rw [join_two, cs_app, cs_app] at h
    rcases List.mem_append.mp h with h | h
    · rcases List.mem_append.mp h with h | h
      · exact .inr ⟨y, by simp, h⟩
      · exact .inl h
    · rcases mem_join h with h | ⟨y', hy, h⟩
      · exact .inl h
      · exact .inr ⟨y', List.mem_cons_of_mem _ hy, h⟩
theorem join_eq (sep : Str) (ys : List Str) : Txt.join sep ys = sep.join ys := glued_eq_join sep ys
theorem split_row {l : Ln} (h : LOk 48 l) : Txt.split (rowS l) " " = [wS l.1, wS l.2] := by
  unfold rowS
  rw [← join_eq]
  refine split_join (c0 := 32) (t := []) cs_sp (by decide +kernel) (by simp) fun w hw => ?_
  simp only [List.mem_cons, List.not_mem_nil, or_false] at hw
  rcases hw with rfl | rfl
  · exact okw_no (wS_ok h.1).1 (.inl rfl)
  · exact okw_no (wS_ok h.2).1 (.inl rfl)
theorem semi_row {l : Ln} (h : LOk 48 l) : 59 ∉ cs (rowS l) := fun z => by
  unfold rowS at z
  rcases mem_join z with z | ⟨w, hw, z⟩
  · rw [cs_sp] at z
    simp at z
  · simp only [List.mem_cons, List.not_mem_nil, or_false] at hw
    rcases hw with rfl | rfl
    · exact okw_no (wS_ok h.1).1 (.inr rfl) z
    · exact okw_no (wS_ok h.2).1 (.inr rfl) z
theorem split_txt {ls : List Ln} (h0 : ls ≠ []) (h : ∀ l ∈ ls, LOk 48 l) : Txt.split (txt ls) "; " = ls.map rowS := by
  unfold txt
  rw [← join_eq]
  refine split_join (c0 := 59) (t := [32]) cs_semi (by decide +kernel) (by simpa using h0) fun y hy => ?_
  obtain ⟨l, hl, rfl⟩ := List.mem_map.mp hy
  exact semi_row (h l hl)
theorem row_back {p : Str} {a b : Option Nat} (h : Txt.split p " " = [wS a, wS b]) : p = rowS (a, b) := by
  rw [← StrLaws.join_split p " ", h]
  rfl
theorem txt_back {t : Str} {ls : List Ln} (h : Txt.split t "; " = ls.map rowS) : t = txt ls := by
  rw [← StrLaws.join_split t "; ", h]
  rfl
theorem rowS_inj {l l' : Ln} (h : LOk 48 l) (h' : LOk 48 l') (q : rowS l = rowS l') : l = l' := by
  have e := split_row h
  rw [q, split_row h'] at e
  simp only [List.cons.injEq, and_true] at e
  exact Prod.ext (wS_inj h.1 h'.1 e.1.symm) (wS_inj h.2 h'.2 e.2.symm)
theorem map_inj_on {α β : Type} {f : α → β} : ∀ {xs ys : List α}, (∀ x ∈ xs, ∀ y ∈ ys, f x = f y → x = y) → xs.map f = ys.map f → xs = ys
  | [], [], _, _ => rfl
  | [], _ :: _, _, e => by simp at e
  | _ :: _, [], _, e => by simp at e
  | x :: xs, y :: ys, h, e => by
    simp only [List.map_cons, List.cons.injEq] at e
    rw [h x (by simp) y (by simp) e.1, map_inj_on (fun a ha b hb => h a (List.mem_cons_of_mem _ ha) b (List.mem_cons_of_mem _ hb)) e.2]
theorem txt_inj {ls ls' : List Ln} (h0 : ls ≠ []) (h : ∀ l ∈ ls, LOk 48 l) (h0' : ls' ≠ []) (h' : ∀ l ∈ ls', LOk 48 l) (q : txt ls = txt ls') : ls = ls' := by
  have e := split_txt h0 h
  rw [q, split_txt h0' h'] at e
  exact (map_inj_on (fun x hx y hy => rowS_inj (h' x hx) (h y hy)) e).symm
theorem join_len (sep : Str) : ∀ ys : List Str, (Str.join sep ys).length + sep.length ≥ ys.length * sep.length ∧ (ys ≠ [] → (Str.join sep ys).length + sep.length = (ys.map (·.length)).sum + ys.length * sep.length)
  | [] => ⟨by simp, fun h => absurd rfl h⟩
  | [y] => by
    rw [Str.join.eq_2]
    simp
  | y :: z :: r => by
    obtain ⟨h1, h2⟩ := join_len sep (z :: r)
    have h2 := h2 (by simp)
    have e : (Str.join sep (y :: z :: r)).length = y.length + sep.length + (Str.join sep (z :: r)).length := by
      rw [join_two, Str.length_append, Str.length_append]
    have m1 : (y :: z :: r).length * sep.length = (z :: r).length * sep.length + sep.length := by
      rw [List.length_cons, Nat.succ_mul]
    rw [e, m1]
    refine ⟨by omega, fun _ => ?_⟩
    simp only [List.map_cons, List.sum_cons] at h2 ⊢
    omega
theorem split_len (x y : Str) (h : 1 ≤ y.length) : (Txt.split x y).length ≤ x.length + 1 := by
  have q := (join_len y (Txt.split x y)).1
  rw [StrLaws.join_split] at q
  have : (Txt.split x y).length * y.length ≤ x.length + y.length := q
  generalize hk : (Txt.split x y).length = k at this ⊢
  rcases Nat.lt_or_ge x.length k with z | z
  · have h3 : (x.length + 1) * y.length ≤ k * y.length := Nat.mul_le_mul_right _ z
    rw [Nat.succ_mul] at h3
    by_cases hz : k ≤ x.length + 1
    · exact hz
    · have h4 : (x.length + 2) * y.length ≤ k * y.length := Nat.mul_le_mul_right _ (by omega)
      have h5 : x.length ≤ x.length * y.length := Nat.le_mul_of_pos_right _ h
      rw [show (x.length + 2) * y.length = x.length * y.length + 2 * y.length from by rw [Nat.add_mul]] at h4
      omega
  · omega
theorem le_sum : ∀ {xs : List Nat} {a : Nat}, a ∈ xs → a ≤ xs.sum
  | [], _, h => by cases h
  | x :: xs, a, h => by
    rw [List.sum_cons]
    rcases List.mem_cons.mp h with rfl | h
    · exact Nat.le_add_right _ _
    · exact Nat.le_trans (le_sum h) (Nat.le_add_left _ _)
theorem part_len {x y p : Str} (h : p ∈ Txt.split x y) : p.length ≤ x.length := by
  have hne : Txt.split x y ≠ [] := fun z => by rw [z] at h; cases h
  have q := (join_len y (Txt.split x y)).2 hne
  rw [StrLaws.join_split] at q
  have h1 : 1 ≤ (Txt.split x y).length := by
    cases hh : Txt.split x y with
    | nil => exact absurd hh hne
    | cons _ _ => simp
  have h2 : y.length ≤ (Txt.split x y).length * y.length := Nat.le_mul_of_pos_left _ h1
  have h3 : p.length ≤ ((Txt.split x y).map (·.length)).sum := le_sum (List.mem_map.mpr ⟨p, h, rfl⟩)
  omega
theorem rowS_len {l : Ln} (h : LOk 48 l) : (rowS l).length ≤ 5 := by
  have q := (join_len " " [wS l.1, wS l.2]).2 (by simp)
  have h1 := (wS_ok h.1).2
  have h2 := (wS_ok h.2).2
  have e : (" " : Str).length = 1 := by decide +kernel
  rw [e] at q
  simp only [List.map_cons, List.map_nil, List.sum_cons, List.sum_nil, List.length_cons, List.length_nil] at q
  show (Str.join " " [wS l.1, wS l.2]).length ≤ 5
  omega
theorem sum_le {α : Type} {f : α → Nat} {k : Nat} : ∀ {xs : List α}, (∀ x ∈ xs, f x ≤ k) → (xs.map f).sum ≤ k * xs.length
  | [], _ => by simp
  | x :: xs, h => by
    have ih := sum_le (xs := xs) fun y hy => h y (List.mem_cons_of_mem _ hy)
    have := h x (by simp)
    simp only [List.map_cons, List.sum_cons, List.length_cons]
    rw [Nat.mul_succ]
    omega
theorem rows_sum {ls : List Ln} (h : ∀ l ∈ ls, LOk 48 l) : ((ls.map rowS).map (·.length)).sum ≤ 5 * ls.length := by
  rw [List.map_map]
  exact sum_le fun l hl => rowS_len (h l hl)
theorem txt_len {ls : List Ln} (h : ∀ l ∈ ls, LOk 48 l) (h0 : ls ≠ []) : (txt ls).length ≤ 7 * ls.length := by
  have q := (join_len "; " (ls.map rowS)).2 (by simpa using h0)
  have e : ("; " : Str).length = 2 := by decide +kernel
  rw [e, List.length_map] at q
  have := rows_sum h
  show (Str.join "; " (ls.map rowS)).length ≤ _
  omega
end TS

set_option maxHeartbeats 4000000
/-! the texts of claims -/
namespace TC
open PySem PySem.StrLaws TS
abbrev Lc := Nat × Nat × Str
def verds : List Str := ["none", "last", "other", "free"]
theorem verds_ok : ∀ v ∈ verds, okw v = true ∧ v.length ≤ 5 := by unfold verds; decide +kernel
def LOk (n : Nat) (l : Lc) : Prop := l.1 < n ∧ l.2.1 < n ∧ l.2.2 ∈ verds
structure GoodL (ls : List Lc) : Prop where
  one : 1 ≤ ls.length
  most : ls.length ≤ 48
  ok : ∀ l ∈ ls, LOk ls.length l
theorem LOk.mono {n m : Nat} {o : Lc} (h : LOk n o) (l : n ≤ m) : LOk m o := ⟨Nat.lt_of_lt_of_le h.1 l, Nat.lt_of_lt_of_le h.2.1 l, h.2.2⟩
theorem GoodL.all48 {ls : List Lc} (g : GoodL ls) : ∀ l ∈ ls, LOk 48 l := fun l h => (g.ok l h).mono g.most
theorem GoodL.ne {ls : List Lc} (g : GoodL ls) : ls ≠ [] := by
  rintro rfl
  exact absurd g.one (by decide)
theorem rd_num {n : Nat} (h : n < 48) : rdW (numS n) = some n := rdW_wS (e := some n) (fun a e => by cases e; exact h)
theorem num_inj {n m : Nat} (h : n < 48) (h' : m < 48) (e : numS n = numS m) : n = m := by
  have q := rd_num h
  rw [e, rd_num h'] at q
  injection q with q
  exact q.symm
def rowS (l : Lc) : Str := Str.join " " [numS l.1, numS l.2.1, l.2.2]
def txt (ls : List Lc) : Str := Str.join "; " (ls.map rowS)
theorem split_row {l : Lc} (h : LOk 48 l) : Txt.split (rowS l) " " = [numS l.1, numS l.2.1, l.2.2] := by
  unfold rowS
  rw [← join_eq]
  refine split_join (c0 := 32) (t := []) cs_sp (by decide +kernel) (by simp) fun w hw => ?_
  simp only [List.mem_cons, List.not_mem_nil, or_false] at hw
  rcases hw with rfl | rfl | rfl
  · exact okw_no (num_ok h.1).1 (.inl rfl)
  · exact okw_no (num_ok h.2.1).1 (.inl rfl)
  · exact okw_no (verds_ok _ h.2.2).1 (.inl rfl)
theorem semi_row {l : Lc} (h : LOk 48 l) : 59 ∉ cs (rowS l) := fun z => by
  unfold rowS at z
  rcases mem_join z with z | ⟨w, hw, z⟩
  · rw [cs_sp] at z
    simp at z
  · simp only [List.mem_cons, List.not_mem_nil, or_false] at hw
    rcases hw with rfl | rfl | rfl
    · exact okw_no (num_ok h.1).1 (.inr rfl) z
    · exact okw_no (num_ok h.2.1).1 (.inr rfl) z
    · exact okw_no (verds_ok _ h.2.2).1 (.inr rfl) z
theorem split_txt {ls : List Lc} (h0 : ls ≠ []) (h : ∀ l ∈ ls, LOk 48 l) : Txt.split (txt ls) "; " = ls.map rowS := by
  unfold txt
  rw [← join_eq]
  refine split_join (c0 := 59) (t := [32]) cs_semi (by decide +kernel) (by simpa using h0) fun y hy => ?_
  obtain ⟨l, hl, rfl⟩ := List.mem_map.mp hy
  exact semi_row (h l hl)
theorem row_back {p : Str} {a b : Nat} {v : Str} (h : Txt.split p " " = [numS a, numS b, v]) : p = rowS (a, b, v) := by
  rw [← StrLaws.join_split p " ", h]
  rfl
theorem txt_back {t : Str} {ls : List Lc} (h : Txt.split t "; " = ls.map rowS) : t = txt ls := by
  rw [← StrLaws.join_split t "; ", h]
  rfl
theorem rowS_inj {l l' : Lc} (h : LOk 48 l) (h' : LOk 48 l') (q : rowS l = rowS l') : l = l' := by
  have e := split_row h
  rw [q, split_row h'] at e
  simp only [List.cons.injEq, and_true] at e
  exact Prod.ext (num_inj h.1 h'.1 e.1.symm) (Prod.ext (num_inj h.2.1 h'.2.1 e.2.1.symm) e.2.2.symm)
theorem txt_inj {ls ls' : List Lc} (h0 : ls ≠ []) (h : ∀ l ∈ ls, LOk 48 l) (h0' : ls' ≠ []) (h' : ∀ l ∈ ls', LOk 48 l) (q : txt ls = txt ls') : ls = ls' := by
  have e := split_txt h0 h
  rw [q, split_txt h0' h'] at e
  exact (map_inj_on (fun x hx y hy => rowS_inj (h' x hx) (h y hy)) e).symm
theorem rowS_len {l : Lc} (h : LOk 48 l) : (rowS l).length ≤ 11 := by
  have q := (join_len " " [numS l.1, numS l.2.1, l.2.2]).2 (by simp)
  have h1 := (num_ok h.1).2.1
  have h2 := (num_ok h.2.1).2.1
  have h3 := (verds_ok _ h.2.2).2
  have e : (" " : Str).length = 1 := by decide +kernel
  rw [e] at q
  simp only [List.map_cons, List.map_nil, List.sum_cons, List.sum_nil, List.length_cons, List.length_nil] at q
  show (Str.join " " [numS l.1, numS l.2.1, l.2.2]).length ≤ 11
  omega
theorem rows_sum {ls : List Lc} (h : ∀ l ∈ ls, LOk 48 l) : ((ls.map rowS).map (·.length)).sum ≤ 11 * ls.length := by
  rw [List.map_map]
  exact sum_le fun l hl => rowS_len (h l hl)
theorem txt_len {ls : List Lc} (h : ∀ l ∈ ls, LOk 48 l) (h0 : ls ≠ []) : (txt ls).length ≤ 13 * ls.length := by
  have q := (join_len "; " (ls.map rowS)).2 (by simpa using h0)
  have e : ("; " : Str).length = 2 := by decide +kernel
  rw [e, List.length_map] at q
  have := rows_sum h
  show (Str.join "; " (ls.map rowS)).length ≤ _
  omega
end TC

set_option maxHeartbeats 4000000
/-! list(text): a new list of its signs -/
namespace ZS
open PySem PySem.Spec PyProof.Rows
section
variable {prog : Program} {w : World} {A : Around} {E : Value → Shared → Prop} {s : Shared}
theorem hint_str {x : Str} {t : Tok} {Q : Bool → Shared → Prop} (h : Q false s) : wpAny (model prog w) A (Builtin.List.listLengthHint (.str x t)) Q E s := by
  have hT : s.TypeIs (.str x t) "str" := typeIs_str s x t
  unfold Builtin.List.listLengthHint
  refine wpAny_bind (wpAny_specialOf hT PySem.F.slot_str_len.lookup ?_)
  generalize hid : ("str.__len__" : String) = id0
  wp_delta
  rw [show splitId id0 = some ("str", "__len__") from by subst hid; decide +kernel]
  subst hid
  refine wpAny_bind (wpAny_isInstance (T := "str") (b := true) hT (by rw [isSubtype_type]; kernel_rfl) ?_)
  refine wpAny_ite_split (fun hab => absurd hab (by decide)) (fun _ => ?_)
  refine wpAny_ite_split (fun _ => ?_) (fun hab => absurd (by decide +kernel) hab)
  refine wpAny_bind (wpAny_typeOf hT ?_)
  exact wpAny_pure h
theorem extend_str {R : Result → Shared → Prop} (hh : A.handled = none) (x : Str) (t : Tok) (S : Addr) (res : Value) (c₀ : Nat) (hS : s.heap.get? S = some { cls := .type "list", data := .seq #[] c₀ })
    (hR : ∀ h' tk acc' c', (∀ b o, b ≠ S → s.heap.get? b = some o → h'.get? b = some o) → h'.get? S = some { cls := .type "list", dict := none, data := .seq acc' c', slots := #[] } →
      ItemsOf (SignAt x) acc' x.cps.size → R (.ok (.ret res)) { s with heap := h', toks := tk }) (hn : x.cps.size ≤ sizeLine) :
    wpAny (model prog w) A.in1 (Builtin.List.listExtendWith (.ref S) (.str x t) res)
      (fun fin s' => match fin with | .done f => R (.ok f) s' | .again c' => c'.quiet = true ∧ codeAny (model prog w) A c' R s') (fun e s' => R (.error e) s') s := by
  have hSI : S ≠ s.heap.objs.size := Nat.ne_of_lt (Heap.lt_size hS)
  have hSf : S ∉ [s.heap.objs.size] := fun hm => hSI (List.mem_singleton.mp hm)
  unfold Builtin.List.listExtendWith
  refine wpAny_bind (wpAny_typeOf (T := "str") (v := .str x t) (typeIs_str s x t) ?_)
  have h1 : Builtin.List.listSameRef (.ref S) (.str x t) = false := rfl
  have h2 : (Value.type "str" == Value.type "list") = false := by decide
  have h3 : (Value.type "str" == Value.type "tuple") = false := by decide
  simp only [h1, h2, h3, Bool.or_false, Bool.false_eq_true, if_false]
  refine wpAny_bind ?_
  cases ha : x.cps.all (· < 128)
  · refine wpAny_pyIter_wide ha ?_
    refine wpAny_bind (wpAny_holding (hint_str ?_))
    rw [if_neg (by first | decide | decide +kernel)]
    have W := Walks.strWide (prog := prog) (w := w) (A := A.in1) hh s.heap.objs.size x t
    have hst : (s.heap.push { cls := .type "str_iterator", data := .fields #[.str x t, .int 0 0] }).IsStrIter s.heap.objs.size "str_iterator" x t 0 := ⟨_, Heap.get?_push_size _ rfl, rfl, rfl⟩
    refine wpAny_pure ⟨plainId_quiet PySem.F.plain_extend_loop _, codeAny_extend_loopS W.toS hn _ hSf _ x.cps.size 0 _ _ _ rfl (Nat.zero_le _) hst (Heap.get?_push_of_some _ hS) (ItemsOf.nil _) fun s' acc' c' hm hS' hacc => ?_⟩
    rw [Moved.eq_with hm]
    refine hR s'.heap s'.toks acc' c' (fun b ob hb e => hm.heap b ob (fun hmem => ?_) (Heap.get?_push_of_some _ e)) hS' hacc
    rcases List.mem_cons.mp hmem with e' | hmem
    · exact hb e'
    · exact absurd (Heap.lt_size e) (by rw [List.mem_singleton.mp hmem]; exact Nat.lt_irrefl _)
  · refine wpAny_pyIter_ascii ha ?_
    refine wpAny_bind (wpAny_holding (hint_str ?_))
    rw [if_neg (by first | decide | decide +kernel)]
    have W := Walks.strAscii (prog := prog) (w := w) (A := A.in1) hh s.heap.objs.size x t
    have hst : (s.heap.push { cls := .type "str_ascii_iterator", data := .fields #[.str x t, .int 0 0] }).IsStrIter s.heap.objs.size "str_ascii_iterator" x t 0 := ⟨_, Heap.get?_push_size _ rfl, rfl, rfl⟩
    refine wpAny_pure ⟨plainId_quiet PySem.F.plain_extend_loop _, codeAny_extend_loopS W.toS hn _ hSf _ x.cps.size 0 _ _ _ rfl (Nat.zero_le _) hst (Heap.get?_push_of_some _ hS) (ItemsOf.nil _) fun s' acc' c' hm hS' hacc => ?_⟩
    rw [Moved.eq_with hm]
    refine hR s'.heap s'.toks acc' c' (fun b ob hb e => hm.heap b ob (fun hmem => ?_) (Heap.get?_push_of_some _ e)) hS' hacc
    rcases List.mem_cons.mp hmem with e' | hmem
    · exact hb e'
    · exact absurd (Heap.lt_size e) (by rw [List.mem_singleton.mp hmem]; exact Nat.lt_irrefl _)
theorem list_init_str {R : Result → Shared → Prop} (hh : A.handled = none) (x : Str) (t : Tok) (S : Addr) (hS : s.heap.get? S = some { cls := .type "list", data := .seq #[] })
    (hR : ∀ h' tk acc' c', (∀ b o, b ≠ S → s.heap.get? b = some o → h'.get? b = some o) → h'.get? S = some { cls := .type "list", dict := none, data := .seq acc' c', slots := #[] } →
      ItemsOf (SignAt x) acc' x.cps.size → R (.ok (.ret .none)) { s with heap := h', toks := tk }) (hn : x.cps.size ≤ sizeLine) :
    wpAny (model prog w) A.in1 (Builtin.«list.__init__» ⟨[.ref S, .str x t], []⟩)
      (fun fin s' => match fin with | .done f => R (.ok f) s' | .again c' => c'.quiet = true ∧ codeAny (model prog w) A c' R s') (fun e s' => R (.error e) s') s := by
  show wpAny _ _ (do let old ← Builtin.List.listItems (.ref S); Builtin.List.listUpdate (.ref S) (fun _ => #[]); letGo old.toList.reverse; Builtin.List.listExtendWith (.ref S) (.str x t) .none) _ _ s
  refine wpAny_bind ?_
  unfold Builtin.List.listItems
  refine wpAny_bind (wpAny_seqItems hS rfl (wpAny_pure ?_))
  show wpAny _ _ (updateSeq S (fun _ => #[]) >>= fun _ => letGo (#[] : Array Value).toList.reverse >>= fun _ => Builtin.List.listExtendWith (.ref S) (.str x t) .none) _ _ s
  refine wpAny_bind (wpAny_updateSeq hS rfl ?_)
  have hS₂ := Heap.get?_update_self (Obj.mapSeq (fun _ => (#[] : Array Value))) hS rfl
  have oth : ∀ b o, b ≠ S → s.heap.get? b = some o → (s.heap.update S (Obj.mapSeq (fun _ => (#[] : Array Value)))).get? b = some o :=
    fun b o hb e => (Heap.get?_update_other _ _ (Ne.symm hb)).trans e
  refine wpAny_bind (wpAny_letGo ?_)
  refine extend_str hh x t S .none _ hS₂ (fun h' tk acc' c' hk hS' hacc => ?_) hn
  exact hR h' tk acc' c' (fun b o hb e => hk b o hb (oth b o hb e)) hS' hacc
theorem call_list_strW {x : Str} {t : Tok} {Q : Value → Shared → Prop} (hh : A.handled = none) (hn : x.cps.size ≤ sizeLine)
    (hQ : ∀ h' tk acc' c', (∀ b o, s.heap.get? b = some o → h'.get? b = some o) →
      h'.get? s.heap.objs.size = some { cls := .type "list", dict := none, data := .seq acc' c', slots := #[] } → ItemsOf (SignAt x) acc' x.cps.size → Q (.ref s.heap.objs.size) { s with heap := h', toks := tk }) :
    wpAny (model prog w) A (call (.type "list") [.str x t]) Q E s := by
  refine callType_codes (Q₁ := fun obj s₁ => obj = .ref s.heap.objs.size ∧ s₁ = { s with heap := s.heap.push { cls := .type "list", data := .seq #[] } }) PySem.F.called_list (PySem.F.typeCall_list_1 _) PySem.F.entry_list_init
    (code_list_new _ ⟨rfl, rfl⟩) fun obj s₁ h₁ => ?_
  obtain ⟨rfl, rfl⟩ := h₁
  have hS : (s.heap.push { cls := .type "list", data := .seq #[] }).get? s.heap.objs.size = some { cls := .type "list", data := .seq #[] } := Heap.get?_push_size _ rfl
  refine ⟨⟨_, hS, rfl⟩, PySem.F.args_list_init_2 _ _, list_init_str (A := A.in1) hh x t _ hS (fun h' tk acc' c' hk hS' hacc => ?_) hn⟩
  exact ⟨rfl, hQ h' tk acc' c' (fun b o e => hk b o (Nat.ne_of_lt (Heap.lt_size e)) (Heap.get?_push_of_some _ e)) hS' hacc⟩
end
end ZS
namespace L2
open PySem PySem.Spec PyProof.Rows
/-- the signs of a text -/
def signs (x : Str) : List Str := x.cps.toList.map fun c => ⟨#[c]⟩
theorem call_list_str {X : Cx} (hc : X.calm = true) : CallR X (.type "list") (fun xs H Q => ∃ x : Str, xs = [.str x] ∧ x.length ≤ sizeLine ∧ ∀ q, H q = none → Q (.ref q) (upd H q (.lst ((signs x).map V.str)))) := by
  intro pins s σ H xs us Q I r h
  obtain ⟨x, rfl, hz, q⟩ := h
  cases r with
  | cons rx rr =>
    cases rr
    obtain ⟨t, rfl⟩ := rx
    refine ZS.call_list_strW (I.ok.hd hc) hz fun h' tk acc c' hk e hi => ?_
    have hl : x.cps.toList.length = x.cps.size := by simp
    refine ⟨.ref s.heap.objs.size, upd H s.heap.objs.size (.lst ((signs x).map V.str)), I.laid hk (Nat.le_refl _) ⟨by unfold signs; rw [List.length_map, List.length_map, hl]; exact hz, acc.toList, c', ?_, by rw [Array.toArray_toList]; exact e⟩, rfl, q _ (I.hok.fresh (Nat.le_refl _))⟩
    refine vals_of_idx _ _ (by unfold signs; rw [List.length_map, List.length_map, hl, Array.length_toList]; exact hi.1) fun j u hj => ?_
    obtain ⟨c, t', hcx, rfl⟩ := hi.2 j u (by rw [← Array.getElem?_toList]; exact hj)
    exact ⟨.str ⟨#[c]⟩, by unfold signs; rw [List.getElem?_map, List.getElem?_map, Array.getElem?_toList, hcx]; rfl, ⟨_, rfl⟩⟩
end L2

set_option maxHeartbeats 4000000
namespace PA
open PySem L2 RZ
open C8 (pss_cut tCut)
open TC (Lc LOk GoodL verds)
open TS (rdW)
def top (i : Nat) : Stmt := PySem.Challenge.pw_pairahead_k23_claims_made.main.body.getD i (.Pass ⟨0, 0, 0, 0⟩)
abbrev sIsInt : Stmt := top 5
abbrev sBelow : Stmt := top 6
abbrev sReadSt : Stmt := top 7
abbrev sInit : Stmt := inClass (top 28) 0
abbrev sRead : Stmt := inClass (top 28) 1
abbrev sStr : Stmt := inClass (top 28) 4
abbrev sCheck : Stmt := top 29
abbrev sIsRow : Stmt := top 30
abbrev sReadRow : Stmt := top 31
abbrev sDraw : Stmt := top 37
abbrev sStart : Stmt := top 38
abbrev sPick : Stmt := top 39
abbrev sSame : Stmt := top 40
abbrev sHanded : Stmt := top 41
abbrev sClaim : Stmt := top 42
abbrev sReading : Stmt := top 43
abbrev sChanged : Stmt := top 44
abbrev sFault : Stmt := top 45
abbrev sLaw : Stmt := top 46
/-! ### cells: what stands in a table, right or wrong -/
inductive Cell (H : Hp) : V → Prop
  | int (i : Int) : Cell H (.int i)
  | bl (b : Bool) : Cell H (.bl b)
  | non : Cell H .non
  | str (s : Str) : Cell H (.str s)
  | ti {a : Addr} {i : Int} (h : H a = some (.tup [.int i])) : Cell H (.ref a)
  | ts {a : Addr} {s : Str} (h : H a = some (.tup [.str s])) (hs : PyData.strOk s = true) : Cell H (.ref a)
theorem Cell.kin {H H' : Hp} {v : V} (c : Cell H v) (k : ∀ c xs, H c = some (.tup xs) → H' c = some (.tup xs)) : Cell H' v := by
  cases c with
  | int i => exact .int i
  | bl b => exact .bl b
  | non => exact .non
  | str s => exact .str s
  | ti h => exact .ti (k _ _ h)
  | ts h hs => exact .ts (k _ _ h) hs
def isI : V → Bool
  | .int _ => true
  | _ => false
def isB : V → Bool
  | .bl _ => true
  | _ => false
def below (n : Nat) : V → Bool
  | .int i => decide (0 ≤ i) && decide (i < (n : Int))
  | _ => false
def vOk : V → Bool
  | .str s => decide (s ∈ verds)
  | _ => false
def rowOk (n : Nat) : List V → Bool
  | [a, b, v] => below n a && (below n b && vOk v)
  | _ => false
theorem row_len {n : Nat} {xs : List V} (h : xs.length ≠ 3) : rowOk n xs = false := by
  match xs, h with
  | [], _ => rfl
  | [_], _ => rfl
  | [_, _], _ => rfl
  | [_, _, _], h => exact absurd rfl h
  | _ :: _ :: _ :: _ :: _, _ => rfl
def tabOk (rows : List (List V)) : Bool := (decide (1 ≤ rows.length) && decide (rows.length ≤ 48)) && rows.all (rowOk rows.length)
theorem Cell.ty {K : PySem.W.Frag} {H : Hp} {v : V} (c : Cell H v) : ∃ t, TyX K H v (.type t) ∧ PySem.W.kitOne K (.type t) (.type "int") = some (isI v || isB v) ∧ PySem.W.kitOne K (.type t) (.type "bool") = some (isB v) := by
  cases c with
  | int i => exact ⟨"int", .base (.int i), kit_ty (b := "int") (r := true) (by decide +kernel), kit_ty (b := "bool") (r := false) (by decide +kernel)⟩
  | bl b => exact ⟨"bool", .base (.bl b), kit_ty (b := "int") (r := true) (by decide +kernel), kit_ty (b := "bool") (r := true) (by decide +kernel)⟩
  | non => exact ⟨"NoneType", .base .non, kit_ty (b := "int") (r := false) (by decide +kernel), kit_ty (b := "bool") (r := false) (by decide +kernel)⟩
  | str s => exact ⟨"str", .base (.str s), kit_ty (b := "int") (r := false) (by decide +kernel), kit_ty (b := "bool") (r := false) (by decide +kernel)⟩
  | ti h => exact ⟨"tuple", .base (.tup h), kit_ty (b := "int") (r := false) (by decide +kernel), kit_ty (b := "bool") (r := false) (by decide +kernel)⟩
  | ts h hs => exact ⟨"tuple", .base (.tup h), kit_ty (b := "int") (r := false) (by decide +kernel), kit_ty (b := "bool") (r := false) (by decide +kernel)⟩
/-! ### a verdict among the four -/
theorem eqv_strs (x : Str) (xs : List Str) : ((xs.map PyData.str).any fun z => PyData.eqv z (.str x)) = decide (x ∈ xs) := by
  induction xs with
  | nil => simp
  | cons y ys ih =>
    rw [List.map_cons, List.any_cons, ih]
    have e : PyData.eqv (.str y) (.str x) = decide (x = y) := by
      show (y == x) = _
      rw [Bool.eq_iff_iff, decide_eq_true_eq, beq_iff_eq]
      exact ⟨fun h => h.symm, fun h => h.symm⟩
    rw [e]
    by_cases h : x = y
    · simp [h]
    · simp [h]
theorem eqv_no {d : PyData} (h : ∀ x, PyData.eqv (.str x) d = false) (xs : List Str) : ((xs.map PyData.str).any fun z => PyData.eqv z d) = false := by
  rw [List.any_eq_false]
  intro z hz
  obtain ⟨x, _, rfl⟩ := List.mem_map.mp hz
  rw [h x]
  decide
theorem eqV_strs (a b : Str) : eqV (.str a) (.str b) = decide (a = b) := by
  show (a == b) = decide (a = b)
  rw [Bool.eq_iff_iff]
  simp
abbrev tx (ss : List Str) : List V := ss.map V.str
theorem inV_tx (s : Str) (ss : List Str) : inV (.str s) (tx ss) = decide (s ∈ ss) := by
  unfold inV
  rw [Bool.eq_iff_iff, List.any_eq_true]
  simp only [decide_eq_true_eq]
  constructor
  · rintro ⟨x, hx, e⟩
    obtain ⟨z, hz, rfl⟩ := List.mem_map.mp hx
    rw [eqV_strs, decide_eq_true_eq] at e
    rw [← e]
    exact hz
  · intro h
    exact ⟨.str s, List.mem_map.mpr ⟨s, h, rfl⟩, by rw [eqV_strs, decide_eq_true_eq]⟩
theorem tx_flat (ss : List Str) : (tx ss).all flatV = true := by
  rw [List.all_eq_true]
  intro x hx
  obtain ⟨z, _, rfl⟩ := List.mem_map.mp hx
  rfl
theorem inV_no {v : V} (h : ∀ x : Str, eqV (.str x) v = false) (ss : List Str) : inV v (tx ss) = false := by
  unfold inV
  rw [List.any_eq_false]
  intro z hz
  obtain ⟨x, _, rfl⟩ := List.mem_map.mp hz
  rw [h x]
  decide
/-- a cell is a flat value that is in the verdicts or not, or data -/
theorem Cell.dp {K : PySem.W.Frag} {H : Hp} {v : V} (c : Cell H v) : (flatV v = true ∧ inV v (tx verds) = vOk v) ∨ ∃ d, Dp K H v d ∧ d.canLay0 = true ∧ d.depth ≤ 10 ∧ ((verds.map PyData.str).any fun z => PyData.eqv z d) = vOk v := by
  cases c with
  | int i => exact .inl ⟨rfl, inV_no (fun x => rfl) _⟩
  | bl b => exact .inl ⟨rfl, inV_no (fun x => rfl) _⟩
  | non => exact .inl ⟨rfl, inV_no (fun x => rfl) _⟩
  | str s => exact .inl ⟨rfl, inV_tx s _⟩
  | ti h => exact .inr ⟨.tuple [.int _], .tup (SqT.of h) (.cons (.int _) .nil), by simp [PyData.canLay0, PyData.canLayAll0], by simp [PyData.depth, PyData.depthAll], eqv_no (fun x => by simp [PyData.eqv]) _⟩
  | ts h hs => exact .inr ⟨.tuple [.str _], .tup (SqT.of h) (.cons (.str _) .nil), by simp [PyData.canLay0, PyData.canLayAll0, hs], by simp [PyData.depth, PyData.depthAll], eqv_no (fun x => by simp [PyData.eqv]) _⟩
theorem OpR.or {X : Cx} {op : Value → Value → Sem Value} {r r' : R2} (h : OpR X op r) (h' : OpR X op r') : OpR X op (fun x y H Q => r x y H Q ∨ r' x y H Q) := by
  intro pins s σ H x y v u Q I rx ry q
  rcases q with q | q
  · exact h pins s σ H x y v u Q I rx ry q
  · exact h' pins s σ H x y v u Q I rx ry q
theorem verds_dp {K : PySem.W.Frag} {H : Hp} : ∀ xs : List Str, DpAll K H (xs.map V.str) (xs.map PyData.str)
  | [] => .nil
  | x :: xs => .cons (.str x) (verds_dp xs)
def rInDT (K : PySem.W.Frag) : R2 := fun x y H Q => ∃ d ds, Dp K H x d ∧ Dp K H y (.tuple ds) ∧ d.canLay0 = true ∧ PyData.canLayAll0 ds = true ∧ d.depth ≤ 10 ∧ Q (.bl (ds.any fun z => PyData.eqv z d)) H
theorem op_inDT {X : Cx} (hu : X.A.units + 64 < cLine) : OpR X (compareOp .In) (rInDT X.K) := by
  intro pins s σ H x y v u Q I rx ry h
  obtain ⟨d, ds, hd, he, sd, se, hp, q⟩ := h
  obtain ⟨as, r1⟩ := Dp.reads I d x v hd rx
  obtain ⟨bs, r2⟩ := Dp.reads I (.tuple ds) y u he ry
  exact SeqAt.in_tuple_reads r2 r1 se sd (by omega) ⟨.bl _, H, I, rfl, q⟩
/-! ### data: lines -/
def ev : Option Nat → V
  | none => .non
  | some n => .int (n : Int)
def lv (l : Lc) : List V := [.int (l.1 : Int), .int (l.2.1 : Int), .str l.2.2]
abbrev isLn : Hp → Addr → Lc → Prop := TupOf lv
theorem cell_ev {H : Hp} (o : Option Nat) : Cell H (ev o) := by
  cases o with
  | none => exact .non
  | some n => exact .int n
theorem cell_lv {H : Hp} {l : Lc} : ∀ x ∈ lv l, Cell H x := fun x hx => by
  simp only [lv, List.mem_cons, List.not_mem_nil, or_false] at hx
  rcases hx with rfl | rfl | rfl
  · exact .int _
  · exact .int _
  · exact .str _
theorem below_nat {n m : Nat} : below n (.int (m : Int)) = true ↔ m < n := by
  show (decide ((0 : Int) ≤ (m : Int)) && decide ((m : Int) < (n : Int))) = true ↔ _
  rw [Bool.and_eq_true, decide_eq_true_eq, decide_eq_true_eq]
  exact ⟨fun h => by omega, fun h => ⟨by omega, by omega⟩⟩
theorem row_lv {n : Nat} {l : Lc} : rowOk n (lv l) = true ↔ LOk n l := by
  show (below n (.int (l.1 : Int)) && (below n (.int (l.2.1 : Int)) && decide (l.2.2 ∈ verds))) = true ↔ _
  rw [Bool.and_eq_true, Bool.and_eq_true, below_nat, below_nat, decide_eq_true_eq]
  exact Iff.rfl
theorem tab_lv {ls : List Lc} : tabOk (ls.map lv) = true ↔ GoodL ls := by
  unfold tabOk
  rw [List.length_map, Bool.and_eq_true, Bool.and_eq_true, decide_eq_true_eq, decide_eq_true_eq, List.all_eq_true]
  constructor
  · rintro ⟨⟨h1, h2⟩, h3⟩
    exact ⟨h1, h2, fun l hl => row_lv.mp (h3 _ (List.mem_map.mpr ⟨l, hl, rfl⟩))⟩
  · rintro ⟨h1, h2, h3⟩
    refine ⟨⟨h1, h2⟩, fun x hx => ?_⟩
    obtain ⟨l, hl, rfl⟩ := List.mem_map.mp hx
    exact row_lv.mpr (h3 l hl)
structure Txt (K : PySem.W.Frag) (mg : Str → Option Value) : Prop where
  isi : mg "isinstance" = none
  int_ : mg "int" = none
  bool_ : mg "bool" = none
  list_ : mg "list" = none
  tup_ : mg "tuple" = none
  str_ : mg "str" = none
  len_ : mg "len" = none
  all_ : mg "all" = none
  zip_ : mg "zip" = none
  range_ : mg "range" = none
  max_ : mg "max" = none
  most : ∃ t, mg "MOST_ROWS" = some (.int 48 t)
  verd : ∃ d, mg "VERDICTS" = some (.ref d) ∧ ∀ H, SqT K H d (verds.map V.str)
/-- an error class X, caught as P -/
structure TxtX (K : PySem.W.Frag) (mg : Str → Option Value) (X P : Addr) : Prop where
  x : PySem.W.excIn K X [.type "ValueError", .type "Exception", .type "BaseException", .type "object"] "ValueError.__new__" = true
  g : mg "InvalidClaim" = some (.ref X)
  k : PySem.W.keepIn K (.ref X) = true
  b : PySem.W.subIn K (.ref X) (.type "BaseException") = some true
  t : PySem.W.typeIn K (.ref X) = some (.type "type")
  gP : mg "PairError" = some (.ref P)
  e : PySem.W.exmOne K (.ref X) (.ref P) = some true
  ex : PySem.W.exmOne K (.ref X) (.ref X) = some true
/-! ### promises -/
def spIsInt : Sp := fun vs H Q _ => ∃ v, vs = [v] ∧ Cell H v ∧ Q (.bl (isI v)) H
def spBelow : Sp := fun vs H Q _ => ∃ (v : V) (n : Nat), vs = [v, .int (n : Int)] ∧ Cell H v ∧ Q (.bl (below n v)) H
def spIsRow : Sp := fun vs H Q _ => ∃ (p : Addr) (xs : List V) (n : Nat), vs = [.ref p, .int (n : Int)] ∧ H p = some (.tup xs) ∧ (∀ x ∈ xs, Cell H x) ∧ ∀ H', Same H H' → Q (.bl (rowOk n xs)) H'
section
variable {P : Program} {w : World} {K : PySem.W.Frag} {mg : Str → Option Value} {base : Heap} {C : Addr}
theorem scIsInt : FnScope ["value"] ["value"] (defScope sIsInt) := ⟨rfl, rfl, rfl, by decide +kernel, rfl, by decide +kernel, by decide +kernel⟩
theorem ok_isInt {f : Addr} {fd : FuncData} (F : Fun K "is_integer" "is_integer" sIsInt f fd) (T : Txt K mg) : FnOk P w K mg base CX0 1 f fd ["value"] spIsInt := by
  refine F.ok scIsInt (fun vs H Q E h => ?_) (fun cdv A outer s H vs Q E hr h => ?_)
  · obtain ⟨i, rfl, _⟩ := h
    rfl
  · obtain ⟨v, rfl, hc, k⟩ := h
    refine ⟨_, pss_one (ps_ret (pe_and (pe_callB call_isi (by rfl) T.isi boot_isi (pa_cons (pv 0) (pa_cons (pe_bltn (v := .ty "int") (by rfl) T.int_ boot_int' rfl) pa_nil)))
      (pe_one (pe_not (pe_callB call_isi (by rfl) T.isi boot_isi (pa_cons (pv 0) (pa_cons (pe_bltn (v := .ty "bool") (by rfl) T.bool_ boot_bool' rfl) pa_nil))))))), ?_⟩
    obtain ⟨t, ht, k1, k2⟩ := hc.ty (K := K)
    refine ⟨_, rfl, _, _, _, _, _, rfl, .ty _, ht, k1, _, rfl, ?_⟩
    cases v with
    | int i => exact iteT ⟨_, rfl, _, _, _, _, _, rfl, .ty _, ht, k2, _, rfl, k⟩
    | bl b => exact iteT ⟨_, rfl, _, _, _, _, _, rfl, .ty _, ht, k2, _, rfl, k⟩
    | _ => exact iteF k
theorem scBelow : FnScope ["value", "count"] ["value", "count"] (defScope sBelow) := ⟨rfl, rfl, rfl, by decide +kernel, rfl, by decide +kernel, by decide +kernel⟩
theorem ok_below {f g : Addr} {fd gd : FuncData} (F : Fun K "is_below" "is_below" sBelow f fd) (T : Txt K mg) (D : Df K mg "is_integer" sIsInt g gd ["value"]) : FnOk P w K mg base CX0 2 f fd ["value", "count"] spBelow := by
  have G : FnOk P w K mg base CX0 1 g gd ["value"] spIsInt := ok_isInt D.F T
  refine F.ok scBelow (fun vs H Q E h => ?_) (fun cdv A outer s H vs Q E hr h => ?_)
  · obtain ⟨v, c, rfl, _⟩ := h
    rfl
  · obtain ⟨v, n, rfl, hc, k⟩ := h
    refine ⟨_, pss_one (ps_ret (pe_and (pe_call G hr rfl D.M D.F.kp D.B .nil pass0 (pa_cons (pv 0) pa_nil)) (pe_one (pe_chain op_le op_lt pe_int (pv 0) (pv 1))))), ?_⟩
    refine ⟨_, rfl, v, rfl, hc, _, rfl, ?_⟩
    cases v with
    | int i =>
      refine iteT ⟨_, rfl, _, _, rfl, rfl, _, rfl, ifD_2 (fun h0 => ⟨_, rfl, _, _, rfl, rfl, ?_⟩) fun h0 => ?_⟩
      · show Q (V.bl (decide (i < (n : Int)))) H
        have e : below n (.int i) = decide (i < (n : Int)) := by show (decide (0 ≤ i) && decide (i < (n : Int))) = _; rw [decide_eq_true h0, Bool.true_and]
        rw [← e]
        exact k
      · have e : below n (.int i) = false := by show (decide (0 ≤ i) && decide (i < (n : Int))) = _; rw [decide_eq_false h0, Bool.false_and]
        rw [e] at k
        exact k
    | _ => exact iteF k
theorem scIsRow : FnScope ["row", "count"] ["row", "count"] (defScope sIsRow) := ⟨rfl, rfl, rfl, by decide +kernel, rfl, by decide +kernel, by decide +kernel⟩
theorem ok_isRow {f g1 g2 : Addr} {fd gd1 gd2 : FuncData} (F : Fun K "_is_row" "_is_row" sIsRow f fd) (T : Txt K mg) (D1 : Df K mg "is_integer" sIsInt g1 gd1 ["value"]) (D2 : Df K mg "is_below" sBelow g2 gd2 ["value", "count"]) : FnOk P w K mg base CX0 3 f fd ["row", "count"] spIsRow := by
  have G2 : FnOk P w K mg base CX0 2 g2 gd2 ["value", "count"] spBelow := ok_below D2.F T D1
  obtain ⟨VD, hVD, hvd⟩ := T.verd
  refine F.ok scIsRow (fun vs H Q E h => ?_) (fun cdv A outer s H vs Q E hr h => ?_)
  · obtain ⟨p, _, _, rfl, _⟩ := h
    rfl
  · obtain ⟨p, xs, n, rfl, hp, hc, kk⟩ := h
    refine ⟨_, pss_one (ps_ret (pe_and (pe_cmpR op_eq (pe_callB call_len_seq (by rfl) T.len_ PySem.boot_len (pa_cons (pv 0) pa_nil)) pe_int (nomark _))
      (pe_and (pe_call G2 hr rfl D2.M D2.F.kp D2.B .nil pass0 (pa_cons (pe_ix ix_tup (pv 0) pe_int (fun _ _ => rfl)) (pa_cons (pv 1) pa_nil)))
      (pe_and (pe_call G2 hr rfl D2.M D2.F.kp D2.B .nil pass0 (pa_cons (pe_ix ix_tup (pv 0) pe_int (fun _ _ => rfl)) (pa_cons (pv 1) pa_nil)))
      (pe_one (pe_cmpR (OpR.or op_in_seq (op_inDT hr.units)) (pe_ix ix_tup (pv 0) pe_int (fun _ _ => rfl)) (pe_glob (v := .ref VD) rfl hVD rfl) rfl)))))), ?_⟩
    refine ⟨_, rfl, p, _, rfl, .inr (SqT.of hp), rfl, _, rfl, ?_⟩
    by_cases h3 : xs.length = 3
    rotate_left
    · rw [row_len h3] at kk
      refine ifD_no (by intro z; injection z with z; exact h3 (by omega)) ?_
      exact kk H fun _ _ e => e
    obtain ⟨a, b, v, rfl⟩ : ∃ a b v, xs = [a, b, v] := by
      match xs, h3 with
      | [a, b, v], _ => exact ⟨a, b, v, rfl⟩
    have ca := hc a (by simp)
    have cb := hc b (by simp)
    have cv := hc v (by simp)
    have kk : ∀ H', Same H H' → Q (V.bl (below n a && (below n b && vOk v))) H' := kk
    refine ifD_yes rfl ?_
    refine ⟨_, rfl, p, _, 0, _, rfl, rfl, SqT.of hp, rfl, _, rfl, a, n, rfl, ca, _, rfl, ?_⟩
    cases ea : below n a with
    | false =>
      rw [ea] at kk
      exact iteF (kk H fun _ _ e => e)
    | true =>
    rw [ea] at kk
    refine iteT ⟨_, rfl, p, _, 1, _, rfl, rfl, SqT.of hp, rfl, _, rfl, b, n, rfl, cb, _, rfl, ?_⟩
    cases eb : below n b with
    | false =>
      rw [eb] at kk
      exact iteF (kk H fun _ _ e => e)
    | true =>
    rw [eb] at kk
    have vl : PyData.canLayAll0 (verds.map PyData.str) = true := by
      have e1 : PyData.strOk (Str.ofString "none") = true := by decide +kernel
      have e2 : PyData.strOk (Str.ofString "last") = true := by decide +kernel
      have e3 : PyData.strOk (Str.ofString "other") = true := by decide +kernel
      have e4 : PyData.strOk (Str.ofString "free") = true := by decide +kernel
      unfold verds
      simp [PyData.canLayAll0, PyData.canLay0, e1, e2, e3, e4]
    refine iteT ⟨_, rfl, p, _, 2, _, rfl, rfl, SqT.of hp, rfl, ?_⟩
    rcases cv.dp (K := K) with ⟨f1, f2⟩ | ⟨d, hd, l1, l2, l3⟩
    · refine .inl ⟨VD, tx verds, rfl, .inr (hvd H), f1, tx_flat _, ?_⟩
      show Q (V.bl (inV v (tx verds))) H
      rw [f2]
      exact kk H fun _ _ e => e
    · refine .inr ⟨d, verds.map PyData.str, hd, .tup (hvd H) (verds_dp verds), l1, vl, l2, ?_⟩
      rw [l3]
      exact kk H fun _ _ e => e
end
end PA

set_option maxHeartbeats 4000000
namespace PA
open PySem L2 RZ
open C8 (pss_cut tCut)
open TC (Lc LOk GoodL verds)
abbrev isC : Hp → Addr → List V → Prop := TupOf id
/-- a tuple or a list at c of the cells -/
def TLc (H : Hp) (c : Addr) (r : List V) : Prop := H c = some (.tup r) ∨ H c = some (.lst r)
def rsf (T : Addr) : List (Str × V) := putF "rows" (.ref T) []
theorem rsf_rows (T : Addr) : (rsf T).lookup ("rows" : Str) = some (.ref T) := by
  unfold rsf
  rw [lookup_putF, if_pos rfl]
theorem rsf_no (T : Addr) {m : Str} (h1 : ¬ m = "rows") : (rsf T).lookup m = none := by
  unfold rsf
  rw [lookup_putF, if_neg h1]
  all_goals rfl
/-- a Claim of these rows stands at p -/
def RowsAt (C : Addr) (H : Hp) (p : Addr) (rows : List (List V)) : Prop := ∃ dx T refs, H p = some (.ins C dx (rsf T)) ∧ H T = some (.tup refs) ∧ Ea H isC refs rows
/-- what the class Claim is, and Found -/
structure TxtC (K : PySem.W.Frag) (mg : Str → Option Value) (C Fo : Addr) : Prop where
  cl : Cls K C
  nR : NoAttr K C "rows"
  mgC : mg "Claim" = some (.ref C)
  mgF : mg "Found" = some (.ref Fo)
  kl : PySem.W.kitOne K (.type "list") (.ref Fo) = some false
  kt : PySem.W.kitOne K (.type "tuple") (.ref Fo) = some false
def spCheck (X : Addr) : Sp := fun vs H Q E => ∃ (R : Addr) (refs : List V) (rows : List (List V)), vs = [.ref R] ∧ H R = some (.tup refs) ∧ Ea H isC refs rows ∧ rows.length ≤ 9000 ∧ (∀ r ∈ rows, ∀ x ∈ r, Cell H x) ∧
  (tabOk rows = true → ∀ H', Same H H' → Q .non H') ∧ (tabOk rows = false → ∀ H', Same H H' → E (.ref X) none H')
def spInit (C X : Addr) : Sp := fun vs H Q E => ∃ (p dx L : Addr) (refs : List V) (rows : List (List V)), vs = [.ref p, .ref L] ∧ H p = some (.ins C dx []) ∧ (H L = some (.lst refs) ∨ H L = some (.tup refs)) ∧ Ea H TLc refs rows ∧ rows.length ≤ 9000 ∧ (∀ r ∈ rows, ∀ x ∈ r, Cell H x) ∧
  (tabOk rows = true → ∀ H', RowsAt C H' p rows → (∀ c o, H c = some o → c ≠ p → H' c = some o) → Q .non H') ∧
  (tabOk rows = false → ∀ H', (∀ c o, H c = some o → c ≠ p → H' c = some o) → E (.ref X) none H')
section
variable {P : Program} {w : World} {K : PySem.W.Frag} {mg : Str → Option Value} {base : Heap} {C X PE_ Fo : Addr}
theorem scCheck : FnScope ["rows", "row"] ["rows"] (defScope sCheck) := ⟨rfl, rfl, rfl, by decide +kernel, rfl, by decide +kernel, by decide +kernel⟩
theorem ok_check {f g1 g2 g3 : Addr} {fd gd1 gd2 gd3 : FuncData} (F : Fun K "_check_rows" "_check_rows" sCheck f fd) (T : Txt K mg) (TX : TxtX K mg X PE_) (D1 : Df K mg "is_integer" sIsInt g1 gd1 ["value"]) (D2 : Df K mg "is_below" sBelow g2 gd2 ["value", "count"]) (D3 : Df K mg "_is_row" sIsRow g3 gd3 ["row", "count"]) : FnOk P w K mg base (L2.CX P w) 4 f fd ["rows"] (spCheck X) := by
  have G3 : FnOk P w K mg base CX0 3 g3 gd3 ["row", "count"] spIsRow := ok_isRow D3.F T D1 D2
  obtain ⟨tm, hmost⟩ := T.most
  refine F.okX scCheck (fun vs H Q E h => ?_) (fun cdv A outer s H vs Q E hr h => ?_)
  · obtain ⟨R, _, _, rfl, _⟩ := h
    rfl
  · obtain ⟨R, refs, rows, rfl, hR, hE, h60, hcr, kg, kb⟩ := h
    refine ⟨_, pss_cons (ps_if (pt_not (pt_chain op_le op_le pe_int (pe_callB call_len_seq (by rfl) T.len_ PySem.boot_len (pa_cons (pv 0) pa_nil)) (pe_glob (v := .int 48) rfl hmost ⟨_, rfl⟩)))
        (pss_one (ps_raise rfl (takes_of rfl rfl rfl rfl) (pmk_own PySem.F.excBase_ValueError TX.x TX.g TX.k (raises_own TX.b TX.t) (by rfl)))) pss_nil)
      (pss_one (ps_if (pt_not (pt_val (pe_callB (cr_all rfl) (by rfl) T.all_ boot_all' (pa_cons (pe_lc (own := [("row", 1)]) (g := gName 1) (tt := tYes) (by rfl) scCheck.nd (pi_tup (pv 0)) (blkOk_by (N := ["rows", "row"]) (sc := defScope sCheck) (by decide +kernel))
          (fun _ _ _ _ _ => pg_name (i := 1) scCheck.nd rfl (Or.inl rfl)) (fun _ _ _ _ _ => pts_nil)
          (fun _ _ _ _ _ => pe_call G3 hr rfl D3.M D3.F.kp D3.B .nil pass0 (pa_cons (pv 1) (pa_cons (pe_callB (call_lenK (K := K) rfl) (by rfl) T.len_ PySem.boot_len (pa_cons (pv 0) pa_nil)) pa_nil)))) pa_nil))))
        (pss_one (ps_raise rfl (takes_of rfl rfl rfl rfl) (pmk_own PySem.F.excBase_ValueError TX.x TX.g TX.k (raises_own TX.b TX.t) (by rfl)))) pss_nil)), ?_⟩
    have hlr : refs.length = rows.length := hE.1
    refine ⟨_, rfl, ?_⟩
    refine ⟨R, _, rfl, .inr (SqT.of hR), _, _, rfl, rfl, _, rfl, ?_⟩
    rw [hlr]
    by_cases h1 : 1 ≤ rows.length
    rotate_left
    · refine ifD_no (by omega) ?_
      have e1 : tabOk rows = false := by
        unfold tabOk
        rw [decide_eq_false h1]
        simp
      exact ⟨false, rfl, iteT (kb e1 H fun _ _ e => e)⟩
    refine ifD_yes (by omega) ⟨_, _, rfl, rfl, _, rfl, ?_⟩
    by_cases h48 : rows.length ≤ 48
    rotate_left
    · have e1 : tabOk rows = false := by
        unfold tabOk
        rw [decide_eq_false h48]
        simp
      rw [decide_eq_false (by omega)]
      exact iteT (kb e1 H fun _ _ e => e)
    rw [decide_eq_true (by omega)]
    refine iteF ?_
    refine ⟨_, rfl, R, rfl, ⟨_, SqT.of hR⟩, fun Dd hD => ?_⟩
    refine lc_same (xs := refs) (walk_t (K := K) (a := R) (xs := refs)) (by rw [hlr]; exact Nat.le_trans h60 (by decide)) hD (fun H' s' => SqT.of (s' _ _ hR)) ((rows.map (rowOk rows.length)).map V.bl) (by simp [hlr]) (fun i x y H' Φ Ψ hx hy sm k => ?_) fun H1 s1 hd1 => ?_
    · rw [List.getElem?_map, Option.map_eq_some_iff] at hy
      obtain ⟨y, hy, rfl⟩ := hy
      rw [List.getElem?_map, Option.map_eq_some_iff] at hy
      obtain ⟨r, hq, rfl⟩ := hy
      obtain ⟨c, rfl, hc⟩ := hE.2 i x _ hx hq
      refine ⟨rfl, ?_⟩
      dsimp only [tYes]
      rw [if_pos rfl]
      refine ⟨_, rfl, _, rfl, R, _, rfl, .inr (SqT.of (sm _ _ hR)), c, r, rows.length, congrArg (fun z : Nat => [V.ref c, V.int (z : Int)]) hlr, sm _ _ hc, fun z hz => (hcr r (List.mem_of_getElem? hq) z hz).kin fun c xs e => sm _ _ e, k⟩
    refine ⟨Dd, _, rfl, SqL.of hd1, ?_⟩
    have hall : (rows.map (rowOk rows.length)).all id = rows.all (rowOk rows.length) := by
      rw [List.all_map]
      rfl
    rw [hall]
    have etab : tabOk rows = rows.all (rowOk rows.length) := by
      unfold tabOk
      rw [decide_eq_true h1, decide_eq_true h48]
      rfl
    rw [etab] at kg kb
    cases hrow : rows.all (rowOk rows.length) with
    | false => exact ⟨false, rfl, iteT (kb hrow H1 s1)⟩
    | true => exact ⟨true, rfl, iteF (kg hrow H1 s1)⟩
theorem scInit : FnScope ["self", "rows", "row"] ["self", "rows"] (defScope sInit) := ⟨rfl, rfl, rfl, by decide +kernel, rfl, by decide +kernel, by decide +kernel⟩
theorem ok_init {f g1 g2 g3 g4 : Addr} {fd gd1 gd2 gd3 gd4 : FuncData} (F : Fun K "__init__" "Claim.__init__" sInit f fd) (T : Txt K mg) (TC : TxtC K mg C Fo) (TX : TxtX K mg X PE_) (D1 : Df K mg "is_integer" sIsInt g1 gd1 ["value"]) (D2 : Df K mg "is_below" sBelow g2 gd2 ["value", "count"]) (D3 : Df K mg "_is_row" sIsRow g3 gd3 ["row", "count"]) (D4 : Df K mg "_check_rows" sCheck g4 gd4 ["rows"]) :
    FnOk P w K mg base (L2.CX P w) 5 f fd ["self", "rows"] (spInit C X) := by
  have G4 : FnOk P w K mg base (L2.CX P w) 4 g4 gd4 ["rows"] (spCheck X) := ok_check D4.F T TX D1 D2 D3
  refine F.okX scInit (fun vs H Q E h => ?_) (fun cdv A outer s H vs Q E hr h => ?_)
  · obtain ⟨p, dx, L, _, _, rfl, _⟩ := h
    rfl
  · obtain ⟨p, dx, L, refs, rows, rfl, hp, hL, hE, h60, hcr, kg, kb⟩ := h
    refine ⟨_, pss_one (ps_if (pt_val (pe_callB call_isi (by rfl) T.isi boot_isi (pa_cons (pv 1) (pa_cons (pe_glob (v := .ref Fo) rfl TC.mgF rfl) pa_nil)))) pss_never
        (pss_cons (ps_fld (pv 0) (pe_callTy call_tuple_of (by rfl) T.tup_ boot_tuple' (pa_cons (pe_lc (own := [("row", 2)]) (g := gName 2) (tt := tYes) (by rfl) scInit.nd (pi_sq (pv 1)) (blkOk_by (N := ["self", "rows", "row"]) (sc := defScope sInit) (by decide +kernel))
          (fun _ _ _ _ _ => pg_name (i := 2) scInit.nd rfl (Or.inl rfl)) (fun _ _ _ _ _ => pts_nil)
          (fun _ _ _ _ _ => pe_callTy (call_tupleK (K := K) rfl) (by rfl) T.tup_ boot_tuple' (pa_cons (pv 2) pa_nil))) pa_nil)) rfl)
        (pss_one (ps_expr (pe_call (E := E) G4 hr rfl D4.M D4.F.kp D4.B .nil (passes_call (takes_of rfl rfl rfl rfl) (fun _ _ _ _ z => z)) (pa_cons (pe_fld (pv 0) rfl) pa_nil)))))), ?_⟩
    have hlr : refs.length = rows.length := hE.1
    have hsz : refs.length ≤ sizeLine := by rw [hlr]; exact Nat.le_trans h60 (by decide)
    obtain ⟨k, hk, hty⟩ : ∃ k, Sk K k H L refs ∧ ∃ t, TyX K H (.ref L) (.type t) ∧ PySem.W.kitOne K (.type t) (.ref Fo) = some false := by
      rcases hL with hL | hL
      · exact ⟨.l, SqL.of hL, "list", .base (.lst hL), TC.kl⟩
      · exact ⟨.t, SqT.of hL, "tuple", .base (.tup hL), TC.kt⟩
    obtain ⟨t, ht, hkit⟩ := hty
    refine ⟨_, rfl, _, _, _, _, _, rfl, .own Fo, ht, hkit, _, rfl, iteF ?_⟩
    refine ⟨k, _, rfl, L, rfl, ⟨_, hk⟩, fun Dd hD => ?_⟩
    refine lc_acc (xs := refs) (walk_k (k := k)) hsz hD (fun H' s' => hk.up s') (fun i acc H' => Ea H' isC acc (rows.take i)) (fun i acc H' e => by rw [e.1, List.length_take]; omega) (by rw [List.take_zero]; exact Ea.nil) (fun i x H' acc Φ Ψ hi hx sm hd he kf => ?_) fun H1 acc s1 hd he => ?_
    · obtain ⟨c, r, rfl, hl, hc⟩ := hE.at_ hx
      refine ⟨rfl, ?_⟩
      dsimp only [tYes]
      rw [if_pos rfl]
      rcases hc with hc | hc
      · refine ⟨_, rfl, c, _, rfl, .inr ⟨SqT.of (sm _ _ hc), kf _ H' (fun _ _ e => e) hd fun H5 h5 b1 b2 => ?_⟩⟩
        rw [take_succ' hl]
        exact Ea.push (he.imp fun c' r' q => TupOf.but q hd b1) (TupOf.but (f := id) (sm _ _ hc) hd b1)
      · refine ⟨_, rfl, c, _, rfl, .inl ⟨SqL.of (sm _ _ hc), fun q hq => ?_⟩⟩
        have sq := new_ (o := .tup r) hq
        refine kf _ _ sq (sq _ _ hd) fun H5 h5 b1 b2 => ?_
        rw [take_succ' hl]
        exact Ea.push (he.imp fun c' r' z => TupOf.but (f := id) (sq _ _ z) (sq _ _ hd) b1) (TupOf.but (f := id) upd_same (sq _ _ hd) b1)
    · rw [hlr, List.take_length] at he
      refine ⟨Dd, _, rfl, .inl ⟨SqL.of hd, fun l hl => ?_⟩⟩
      have sl := new_ (o := .tup acc) hl
      have hp1 := sl _ _ (s1 _ _ hp)
      refine ⟨_, rfl, p, C, dx, _, rfl, hp1, TC.cl, TC.nR, (by show 0 < 1000; decide), ?_⟩
      have hl1 : ∀ o : HO, (upd (upd H1 l (.tup acc)) p o) l = some (.tup acc) := fun o => by
        rw [upd_ne (ne_of hp1 upd_same (by intro z; cases z)).symm]
        exact upd_same
      have kp : ∀ c o (u : HO), H c = some o → c ≠ p → (upd (upd H1 l (.tup acc)) p u) c = some o := fun c o u e hc => by
        rw [upd_ne hc]
        exact sl _ _ (s1 _ _ e)
      refine ⟨_, rfl, p, C, dx, _, _, rfl, upd_same, TC.cl, TC.nR, rsf_rows l, l, acc, rows, rfl, hl1 _, ?_, h60, fun r hr x hx => (hcr r hr x hx).kin fun c xs e => kp _ _ _ e (ne_of e hp (by intro z; cases z)), fun ok H2 s2 => ?_, fun bad H2 s2 => ?_⟩
      · exact (he.same sl).imp fun c r q => TupOf.ins q hp1
      · refine kg ok H2 ⟨dx, l, acc, s2 _ _ upd_same, s2 _ _ (hl1 _), ?_⟩ fun c o e hc => s2 _ _ (kp _ _ _ e hc)
        exact ((he.same sl).imp fun c r q => TupOf.ins (f := id) q hp1).same s2
      · exact kb bad H2 fun c o e hc => s2 _ _ (kp _ _ _ e hc)
end
end PA

set_option maxHeartbeats 2000000
namespace PA
open PySem L2 RZ
open C8 (pss_cut tCut)
/-! ### data of ints -/
theorem ints_lay : ∀ ns : List Int, PyData.canLayAll0 (ns.map PyData.int) = true
  | [] => by simp [PyData.canLayAll0]
  | z :: zs => by simp [PyData.canLayAll0, PyData.canLay0, ints_lay zs]
theorem ints_depth : ∀ ns : List Int, PyData.depthAll (ns.map PyData.int) ≤ 2
  | [] => by simp [PyData.depthAll]
  | z :: zs => by
    have h1 := ints_depth zs
    simp only [List.map_cons, PyData.depthAll, PyData.depth]
    omega
theorem ints_shaped (ns : List Int) : SeqAt.shaped (.list (ns.map PyData.int)) = true := by
  have h1 := ints_depth ns
  have h2 : PyData.depth (.list (ns.map PyData.int)) ≤ 64 := by
    simp only [PyData.depth]
    omega
  show (PyData.canLay0 (.list (ns.map PyData.int)) && decide (PyData.depth (.list (ns.map PyData.int)) ≤ 64)) = true
  rw [Bool.and_eq_true]
  exact ⟨by simp only [PyData.canLay0]; exact ints_lay ns, decide_eq_true h2⟩
theorem dp_ints {K : PySem.W.Frag} {H : Hp} : ∀ ns : List Int, DpAll K H (ns.map V.int) (ns.map PyData.int)
  | [] => .nil
  | z :: zs => .cons (.int z) (dp_ints zs)
theorem ints_nil (ns : List Int) : PyData.eqv (.list (ns.map PyData.int)) (.list []) = ns.isEmpty := by
  cases ns with
  | nil => simp [PyData.eqv, PyData.eqvAll]
  | cons z zs => simp [PyData.eqv, PyData.eqvAll]
/-! ### the stream of draws: the list at a, the numbers left at l, n draws made -/
def StreamAt (H : Hp) (a l : Addr) (n : Nat) : Prop := a ≠ l ∧ ∃ (ns : List Int) (x z : Int), H a = some (.lst [.ref l, .int x, .int (n : Int), .int z]) ∧ H l = some (.lst (ns.map V.int)) ∧ ns.length ≤ 63 ∧ 0 ≤ x ∧ 0 ≤ z ∧ z < 2147483647
/-- all but the stream is kept -/
def Keep (a l : Addr) (H H' : Hp) : Prop := ∀ c o, c ≠ a → c ≠ l → H c = some o → H' c = some o
theorem Keep.refl (a l : Addr) (H : Hp) : Keep a l H H := fun _ _ _ _ h => h
theorem Keep.trans {a l : Addr} {H H1 H2 : Hp} (h : Keep a l H H1) (h' : Keep a l H1 H2) : Keep a l H H2 := fun c o x y e => h' c o x y (h c o x y e)
theorem Keep.of {a l : Addr} {H H' : Hp} (h : Same H H') : Keep a l H H' := fun c o _ _ e => h c o e
theorem StreamAt.same {H H' : Hp} {a l : Addr} {n : Nat} (h : StreamAt H a l n) (s : Same H H') : StreamAt H' a l n := by
  obtain ⟨ne, ns, x, z, h1, h2, h3⟩ := h
  exact ⟨ne, ns, x, z, s _ _ h1, s _ _ h2, h3⟩
def spDraw : Sp := fun vs H Q _ => ∃ (a l : Addr) (n : Nat) (many : Int), vs = [.ref a, .int many] ∧ StreamAt H a l n ∧ n ≤ 100000 ∧ 0 < many ∧ Sm 9000 many ∧
  ∀ (r : Int) (H' : Hp), 0 ≤ r → r < many → StreamAt H' a l (n + 1) → Keep a l H H' → Q (.int r) H'
section
variable {P : Program} {w : World} {K : PySem.W.Frag} {mg : Str → Option Value} {base : Heap} {C : Addr}
theorem scDraw : FnScope ["_law_stream", "_law_many", "_law_digit", "_law_mixed"] ["_law_stream", "_law_many"] (defScope sDraw) := ⟨rfl, rfl, rfl, by decide +kernel, rfl, by decide +kernel, by decide +kernel⟩
theorem ok_draw {f : Addr} {fd : FuncData} (F : Fun K "_law_draw" "_law_draw" sDraw f fd) (T : Txt K mg) : FnOk P w K mg base CX0 1 f fd ["_law_stream", "_law_many"] spDraw := by
  refine F.ok scDraw (fun vs H Q E h => ?_) (fun cdv A outer s H vs Q E hr h => ?_)
  · obtain ⟨a, l, n, many, rfl, _⟩ := h
    rfl
  · obtain ⟨a, l, n, many, rfl, ⟨ne, ns, x, z, h1, h2, hl, hx, hz0, hz1⟩, hn, hm, hms, k⟩ := h
    have hW : ∀ j : Int, CDivW j many := fun j => ⟨hm, Nat.lt_of_lt_of_le (PySem.Flt.log2_lt_of (by decide) hms) (Nat.le_refl _)⟩
    refine ⟨_, pss_cut (ps_asg (pe_op op_add (pe_ix ix_list (pv 0) pe_int (fun _ _ => rfl)) pe_int) (pg_sub (pv 0) pe_int set_list))
      (pss_cut (ps_if (PW.pt (pw_and (pt_cmpR op_eq (pe_ix ix_list (pv 0) pe_int (fun _ _ => rfl)) pe_int (nomark _)) (pw_and1 (pt_cmpR (op_neD hr.units) (pe_ix ix_list (pv 0) pe_int (fun _ _ => rfl)) (pe_lst pa_nil) (nomark _)))))
        (pss_cons (ps_asg (pe_bm PySem.F.plainAttrs_list PySem.F.slot_list_pop PySem.F.type_list_pop mt_popAt (pe_ix ix_list (pv 0) pe_int (fun _ _ => rfl)) (pa_cons pe_int pa_nil)) (pg_sub (pv 0) pe_int set_list))
          (pss_one (ps_if (pt_cmpR op_lt (pe_ix ix_list (pv 0) pe_int (fun _ _ => rfl)) (pe_op op_pow pe_int pe_int) (nomark _))
            (pss_cons (ps_asg (pe_op op_mod (pe_callTy call_int1 (by rfl) T.int_ boot_int' (pa_cons (pe_op op_add (pe_op op_add (pe_op op_mul (pe_ix ix_list (pv 0) pe_int (fun _ _ => rfl)) pe_int) (pe_ix ix_list (pv 0) pe_int (fun _ _ => rfl))) pe_int) pa_nil)) pe_int) (pg_sub (pv 0) pe_int set_list))
              (pss_one (ps_asg pe_int (pg_sub (pv 0) pe_int set_list)))) pss_nil))) pss_nil)
      (pss_cons (ps_if (pt_cmpR op_gt (pe_ix ix_list (pv 0) pe_int (fun _ _ => rfl)) pe_int (nomark _))
        (pss_cons (ps_set (i := 2) scDraw.nd rfl (Or.inl rfl) (pe_op op_mod (pe_callTy call_int1 (by rfl) T.int_ boot_int' (pa_cons (pe_ix ix_list (pv 0) pe_int (fun _ _ => rfl)) pa_nil)) (pv 1)))
          (pss_cons (ps_asg (pe_op op_fdivW (pe_ix ix_list (pv 0) pe_int (fun _ _ => rfl)) (pv 1)) (pg_sub (pv 0) pe_int set_list))
            (pss_one (ps_ret (pv 2))))) pss_nil)
      (pss_cons (ps_set (i := 3) scDraw.nd rfl (Or.inl rfl) (pe_op op_mod (pe_op op_pow (pe_op op_add (pe_op op_add (pe_ix ix_list (pv 0) pe_int (fun _ _ => rfl)) (pe_op op_mul pe_int (pe_ix ix_list (pv 0) pe_int (fun _ _ => rfl)))) pe_int) pe_int) pe_int))
      (pss_one (ps_ret (pe_op op_mod (pe_op op_mod (pe_op op_pow (pe_op op_add (pe_op op_add (pe_op op_mul (pv 3) pe_int) (pe_op op_mul (pe_op op_mul pe_int (pe_ix ix_list (pv 0) pe_int (fun _ _ => rfl))) (pe_ix ix_list (pv 0) pe_int (fun _ _ => rfl)))) pe_int) pe_int) pe_int) (pv 1))))))), ?_⟩
    refine ⟨fun σ' H' => σ' = [some (V.ref a), some (V.int many), none, none] ∧ H' = upd H a (.lst [.ref l, .int x, .int ((n : Int) + 1), .int z]), ?_, ?_⟩
    · exact ⟨_, rfl, a, _, 2, _, rfl, rfl, SqL.of h1, rfl, _, _, rfl, rfl, _, rfl, a, _, 2, 2, rfl, rfl, h1, rfl, rfl, rfl⟩
    rintro _ _ ⟨rfl, rfl⟩
    refine ⟨fun σ' H' => σ' = [some (V.ref a), some (V.int many), none, none] ∧ ∃ (ns' : List Int) (x' z' : Int), H' a = some (.lst [.ref l, .int x', .int ((n : Int) + 1), .int z']) ∧ H' l = some (.lst (ns'.map V.int)) ∧ ns'.length ≤ 63 ∧ 0 ≤ x' ∧ 0 ≤ z' ∧ z' < 2147483647 ∧ Keep a l H H', ?_, ?_⟩
    · have kp1 : Keep a l H (upd H a (.lst [.ref l, .int x, .int ((n : Int) + 1), .int z])) := fun c o ca _ e => by rw [upd_ne ca]; exact e
      have hl1 : (upd H a (.lst [.ref l, .int x, .int ((n : Int) + 1), .int z])) l = some (.lst (ns.map V.int)) := by rw [upd_ne ne.symm]; exact h2
      refine ⟨_, rfl, a, _, 1, _, rfl, rfl, SqL.of upd_same, rfl, rfl, _, rfl, ifD_2 (fun hx0 => ?_) (fun _ => iteF ?_)⟩
      · refine ⟨_, rfl, a, _, 0, _, rfl, rfl, SqL.of upd_same, rfl, Nat.zero_le _, fun p hp => ?_⟩
        have npa : a ≠ p := fun e => by rw [← e, upd_same] at hp; cases hp
        have npl : l ≠ p := ne_of_none hl1 hp
        have kp2 : Keep a l H (upd (upd H a (.lst [.ref l, .int x, .int ((n : Int) + 1), .int z])) p (.lst [])) := fun c o ca cl e => by
          rw [upd_ne (ne_of_none (kp1 c o ca cl e) hp)]; exact kp1 c o ca cl e
        refine ⟨.list (ns.map PyData.int), .list [], .lst (SqL.of (by rw [upd_ne npl]; exact hl1)) (dp_ints ns), .lst (SqL.of upd_same) .nil, ints_shaped ns, ints_shaped [], _, rfl, ?_⟩
        rw [ints_nil]
        cases ns with
        | nil => exact iteF ⟨rfl, [], x, z, by rw [upd_ne npa, upd_same], by rw [upd_ne npl]; exact hl1, Nat.zero_le _, hx, hz0, hz1, kp2⟩
        | cons y ys =>
          refine iteT ?_
          have ga : (upd (upd H a (.lst [.ref l, .int x, .int ((n : Int) + 1), .int z])) p (.lst [])) a = some (.lst [.ref l, .int x, .int ((n : Int) + 1), .int z]) := by rw [upd_ne npa, upd_same]
          have gl : (upd (upd H a (.lst [.ref l, .int x, .int ((n : Int) + 1), .int z])) p (.lst [])) l = some (.lst ((y :: ys).map V.int)) := by rw [upd_ne npl]; exact hl1
          generalize (upd (upd H a (.lst [.ref l, .int x, .int ((n : Int) + 1), .int z])) p (.lst [])) = Hb at ga gl kp2
          refine ⟨_, rfl, a, _, 0, _, rfl, rfl, SqL.of ga, rfl, .inl ⟨rfl, _, SqL.of gl⟩, l, _, 0, 0, .int y, rfl, rfl, gl, by decide, by decide, (ixN_seq (Evl.ixN_nat (j := 0) (by simp))).1, rfl, ?_⟩
          have ga2 : (upd Hb l (.lst (((y :: ys).map V.int).eraseIdx 0))) a = some (.lst [.ref l, .int x, .int ((n : Int) + 1), .int z]) := by rw [upd_ne ne]; exact ga
          refine ⟨_, rfl, a, _, 1, 1, rfl, rfl, ga2, rfl, ?_⟩
          have kp3 : ∀ o, Keep a l H (upd (upd Hb l (.lst (((y :: ys).map V.int).eraseIdx 0))) a o) := fun o c u ca cl e => by rw [upd_ne ca, upd_ne cl]; exact kp2 c u ca cl e
          have gl3 : ∀ o, (upd (upd Hb l (.lst (((y :: ys).map V.int).eraseIdx 0))) a o) l = some (.lst (ys.map V.int)) := fun o => by rw [upd_ne ne.symm, upd_same]; rfl
          have hys : ys.length ≤ 63 := Nat.le_trans (Nat.le_succ _) hl
          refine ⟨_, rfl, a, _, 1, _, rfl, rfl, SqL.of upd_same, rfl, 10, 18, rfl, rfl, (by show CPow 10 18; unfold CPow; decide), _, _, rfl, rfl, _, rfl, ifD_2 (fun hy => ?_) (fun hy => ?_)⟩
          · refine ⟨_, rfl, a, _, 3, _, rfl, rfl, SqL.of upd_same, rfl, _, _, rfl, rfl, .inr (by decide), _, rfl, a, _, 1, _, rfl, rfl, SqL.of upd_same, rfl, _, _, rfl, rfl, _, _, rfl, rfl, .inl ⟨_, rfl, _, _, rfl, rfl, (by show (0 : Int) < 2147483647; decide), _, rfl, a, _, 3, 3, rfl, rfl, upd_same, rfl, ?_⟩⟩
            refine ⟨_, rfl, a, _, 1, 1, rfl, rfl, upd_same, rfl, ?_⟩
            rw [upd_upd, upd_upd]
            exact ⟨rfl, ys, 0, (z * 31 + y + 7) % 2147483647, upd_same, gl3 _, hys, by decide, Int.emod_nonneg _ (by decide), Int.emod_lt_of_pos _ (by decide), kp3 _⟩
          · exact ⟨rfl, ys, y, z, upd_same, gl3 _, hys, by
              have h18 : (0 : Int) ≤ 10 ^ (18 : Int).toNat := by decide
              omega, hz0, hz1, kp3 _⟩
      · exact ⟨rfl, ns, x, z, upd_same, hl1, hl, hx, hz0, hz1, kp1⟩
    rintro _ H1 ⟨rfl, ns', x', z', g1, g2, gl, gx, gz0, gz1, kp⟩
    refine ⟨_, rfl, a, _, 1, _, rfl, rfl, SqL.of g1, rfl, _, _, rfl, rfl, _, rfl, ifD_2 (fun hp => ?_) (fun _ => ?_)⟩
    · refine ⟨_, rfl, a, _, 1, _, rfl, rfl, SqL.of g1, rfl, .inl ⟨_, rfl, _, rfl, _, _, rfl, rfl, hm, ?_⟩⟩
      refine ⟨_, rfl, a, _, 1, _, rfl, rfl, SqL.of g1, rfl, _, rfl, _, _, rfl, rfl, hW _, _, rfl, a, _, 1, 1, rfl, rfl, g1, rfl, _, rfl, ?_⟩
      refine k (x' % many) _ (Int.emod_nonneg _ (by omega)) (Int.emod_lt_of_pos _ hm) ⟨ne, ns', x' / many, z', upd_same, by rw [upd_ne ne.symm]; exact g2, gl, Int.ediv_nonneg gx (by omega), gz0, gz1⟩ fun c o ca cl e => by
        rw [upd_ne ca]; exact kp c o ca cl e
    · have hn' : (n : Int) ≤ 100000 := by omega
      have hn0 : (0 : Int) ≤ n := by omega
      refine ⟨_, rfl, a, _, 3, _, rfl, rfl, SqL.of g1, rfl, _, rfl, a, _, 2, _, rfl, rfl, SqL.of g1, rfl, _, _, rfl, rfl, .inl (by decide), _, _, rfl, rfl, _, _, rfl, rfl, _, _, rfl, rfl, ?_, _, _, rfl, rfl, (by show (0 : Int) < 2147483629; decide), ?_⟩
      · show CPow _ 5
        refine ⟨by decide, by decide, ?_⟩
        have e64 : (2 : Nat) ^ 64 = 18446744073709551616 := by decide
        rw [e64]
        omega
      · generalize hmx : ((z' + 104729 * ((n : Int) + 1) + 17) ^ (5 : Int).toNat) % 2147483629 = mx
        have m0 : 0 ≤ mx := by rw [← hmx]; exact Int.emod_nonneg _ (by decide)
        have m1 : mx < 2147483629 := by rw [← hmx]; exact Int.emod_lt_of_pos _ (by decide)
        refine ⟨_, rfl, _, _, rfl, rfl, .inr (by decide), _, rfl, a, _, 2, _, rfl, rfl, SqL.of g1, rfl, _, _, rfl, rfl, .inl (by decide), _, rfl, a, _, 2, _, rfl, rfl, SqL.of g1, rfl, _, _, rfl, rfl, .inr ?_, _, _, rfl, rfl, _, _, rfl, rfl, _, _, rfl, rfl, ?_, _, _, rfl, rfl, (by show (0 : Int) < 1000000007; decide), _, rfl, _, _, rfl, rfl, hm, ?_⟩
        · have e64 : (2 : Int) ^ 64 = 18446744073709551616 := by decide
          rw [e64]
          omega
        · show CPow _ 3
          refine ⟨by decide, by decide, ?_⟩
          have e64 : (2 : Nat) ^ 64 = 18446744073709551616 := by decide
          rw [e64]
          have q0 : 0 ≤ 40503 * ((n : Int) + 1) * ((n : Int) + 1) := Int.mul_nonneg (by omega) (by omega)
          have q1 : 40503 * ((n : Int) + 1) * ((n : Int) + 1) ≤ 40503 * 100001 * 100001 := Int.mul_le_mul (by omega) (by omega) (by omega) (by decide)
          omega
        · exact k _ _ (Int.emod_nonneg _ (by omega)) (Int.emod_lt_of_pos _ hm) ⟨ne, ns', x', z', g1, g2, gl, gx, gz0, gz1⟩ kp
end
theorem sm9000 {x : Int} {n : Nat} (h : Sm n x) (hn : n ≤ 9000) : Sm 9000 x := h.mono hn
theorem sm_small {x : Int} (h : x.natAbs < 8) : Sm 9000 x := sm9000 (n := 3) h (by decide)
def spStart (K : PySem.W.Frag) : Sp := fun vs H Q _ => ∃ (p : Addr) (ns : List Int), vs = [.ref p] ∧ SqL K H p (ns.map V.int) ∧ ns.length ≤ 63 ∧ ∀ (a l : Addr) (H' : Hp), StreamAt H' a l 0 → H a = none → H l = none → Same H H' → Q (.ref a) H'
section
variable {P : Program} {w : World} {K : PySem.W.Frag} {mg : Str → Option Value} {base : Heap} {C : Addr}
theorem scStart : FnScope ["_law_script"] ["_law_script"] (defScope sStart) := ⟨rfl, rfl, rfl, by decide +kernel, rfl, by decide +kernel, by decide +kernel⟩
theorem ok_start {f : Addr} {fd : FuncData} (F : Fun K "_law_start" "_law_start" sStart f fd) (T : Txt K mg) : FnOk P w K mg base CX0 1 f fd ["_law_script"] (spStart K) := by
  refine F.ok scStart (fun vs H Q E h => ?_) (fun cdv A outer s H vs Q E hr h => ?_)
  · obtain ⟨p, ns, rfl, _⟩ := h
    rfl
  · obtain ⟨p, ns, rfl, hS, hl, k⟩ := h
    refine ⟨_, pss_one (ps_ret (pe_lst (pa_cons (pe_callTy call_list_of (by rfl) T.list_ boot_list' (pa_cons (pv 0) pa_nil)) (pa_cons pe_int (pa_cons pe_int (pa_cons pe_int pa_nil)))))), ?_⟩
    refine ⟨_, rfl, p, _, rfl, .inl hS, fun l hl' => ⟨by show 4 ≤ sizeLine; decide, fun a ha => ?_⟩⟩
    have nal : a ≠ l := fun e => by rw [e, upd_same] at ha; cases ha
    have ha0 : H a = Option.none := by rw [upd_ne nal] at ha; exact ha
    exact k a l _ ⟨nal, ns, 0, 0, upd_same, by rw [upd_ne nal.symm, upd_same], hl, by decide, by decide, by decide⟩ ha0 hl' ((new_ hl').trans (new_ ha))
end
theorem StreamAt.ne {H : Hp} {a l p : Addr} {n : Nat} (S : StreamAt H a l n) (h : H p = none) : p ≠ a ∧ p ≠ l := by
  obtain ⟨ne, ns, x, z, h1, h2, _⟩ := S
  exact ⟨(ne_of_none h1 h).symm, (ne_of_none h2 h).symm⟩
theorem sm48 {z : Int} (h1 : 1 ≤ z) (h2 : z ≤ 48) : Sm 9000 z := by
  refine sm9000 (n := 6) ?_ (by decide)
  have e : (2 : Nat) ^ 6 = 64 := by decide
  show z.natAbs < 2 ^ 6
  rw [e]
  omega
theorem StreamAt.at_ {H : Hp} {a l : Addr} {n m : Nat} (S : StreamAt H a l n) (e : n = m) : StreamAt H a l m := e ▸ S
theorem StreamAt.lst {H : Hp} {a l p : Addr} {n : Nat} {xs ys : List V} (S : StreamAt H a l n) (hp : H p = some (.lst xs)) (pa : p ≠ a) (pl : p ≠ l) : StreamAt (upd H p (.lst ys)) a l n := by
  obtain ⟨ne, ns, x, z, h1, h2, h3⟩ := S
  exact ⟨ne, ns, x, z, by rw [upd_ne pa.symm]; exact h1, by rw [upd_ne pl.symm]; exact h2, h3⟩

def spPick : Sp := fun vs H Q _ => ∃ (a l L : Addr) (n : Nat) (xs : List V), vs = [.ref a, .ref L] ∧ StreamAt H a l n ∧ n ≤ 20000 ∧ H L = some (.lst xs) ∧ L ≠ a ∧ L ≠ l ∧ 1 ≤ xs.length ∧ xs.length ≤ 48 ∧
  ∀ (i : Nat) (x : V) (H' : Hp), xs[i]? = some x → StreamAt H' a l (n + 1) → Keep a l H H' → Q x H'
section
variable {P : Program} {w : World} {K : PySem.W.Frag} {mg : Str → Option Value} {base : Heap} {C : Addr}
theorem scPick : FnScope ["_law_stream", "_law_some"] ["_law_stream", "_law_some"] (defScope sPick) := ⟨rfl, rfl, rfl, by decide +kernel, rfl, by decide +kernel, by decide +kernel⟩
theorem ok_pick {f g : Addr} {fd gd : FuncData} (F : Fun K "_law_pick" "_law_pick" sPick f fd) (T : Txt K mg) (D : Df K mg "_law_draw" sDraw g gd ["_law_stream", "_law_many"]) : FnOk P w K mg base CX0 2 f fd ["_law_stream", "_law_some"] spPick := by
  have G : FnOk P w K mg base CX0 1 g gd ["_law_stream", "_law_many"] spDraw := ok_draw D.F T
  refine F.ok scPick (fun vs H Q E h => ?_) (fun cdv A outer s H vs Q E hr h => ?_)
  · obtain ⟨a, l, L, n, _, rfl, _⟩ := h
    rfl
  · obtain ⟨a, l, L, n, xs, rfl, S0, hn, hL, La, Ll, h1, h48, kk⟩ := h
    refine ⟨_, pss_one (ps_ret (pe_ix ix_list (pv 1) (pe_call G hr rfl D.M D.F.kp D.B .nil pass0 (pa_cons (pv 0) (pa_cons (pe_callB call_len_seq (by rfl) T.len_ PySem.boot_len (pa_cons (pv 1) pa_nil)) pa_nil))) (fun _ _ => rfl))), ?_⟩
    refine ⟨_, rfl, _, rfl, _, rfl, L, xs, rfl, .inl (SqL.of hL), a, l, n, _, rfl, S0, by omega, by omega, sm48 (by omega) (by omega), fun r H1 r0 r1 S1 kp1 => ?_⟩
    have hi : r.toNat < xs.length := by omega
    have hx : xs[r.toNat]? = some xs[r.toNat] := List.getElem?_eq_getElem hi
    have ha := atI_nat hx
    rw [Int.toNat_of_nonneg r0] at ha
    exact ⟨L, xs, r, _, rfl, rfl, SqL.of (kp1 _ _ La Ll hL), ha, kk _ _ H1 hx S1 kp1⟩
end
end PA

set_option maxHeartbeats 4000000
namespace PA
open PySem L2 RZ
/-! ### a comprehension over zip -/
section
variable {K : PySem.W.Frag} {a b : Addr} {xs ys : List V} {g : TG} {tt : TT} {te : TE} {vs : List Nat} {σ : L2.St} {H1 : Hp} {D : Addr} {Qd : Hp → Prop}
theorem lc_zipL (hl : xs.length = ys.length) (Pv : Nat → Hp → Prop) (h0 : Pv 0 (upd H1 D (.lst []))) (hq : ∀ i H, Pv i H → SqL K H a xs ∧ SqL K H b ys)
    (hs : ∀ (i : Nat) (x y : V) (T : Addr) (H : Hp), xs[i]? = some x → ys[i]? = some y → Pv i H → H T = none → g (.ref T) (wipe σ vs) (upd H T (.tup [x, y])) fun σ2 H2 => wipe σ2 vs = wipe σ vs ∧ tt σ2 H2 fun c H3 =>
      if c = true then te σ2 H3 fun z H4 => ∃ acc, H4 D = some (.lst acc) ∧ acc.length < sizeLine ∧ Pv (i + 1) (upd H4 D (.lst (acc ++ [z]))) else Pv (i + 1) H3) (hd : ∀ H, Pv xs.length H → Qd H) :
    ∃ W : Nat → Nat → Hp → Prop, (∃ m, W 0 m (upd H1 D (.lst []))) ∧ ∀ i m H, W i m H →
      ((Itz K a b).stop i H ∧ Qd H) ∨ ((Itz K a b).go i H ∧ ∃ Nx : Hp → Prop, (∀ H', Nx H' → ∃ m', m' < m ∧ W (i + 1) m' H') ∧ ∀ x H', (Itz K a b).yld i H x H' → g x (wipe σ vs) H' fun σ2 H2 => wipe σ2 vs = wipe σ vs ∧ tt σ2 H2 fun c H3 =>
        if c = true then te σ2 H3 fun z H4 => ∃ acc, H4 D = some (.lst acc) ∧ acc.length < sizeLine ∧ Nx (upd H4 D (.lst (acc ++ [z]))) else Nx H3) := by
  refine ⟨fun i m H => m = xs.length - i ∧ i ≤ xs.length ∧ Pv i H, ⟨xs.length, rfl, Nat.zero_le _, h0⟩, ?_⟩
  rintro i m H ⟨rfl, hi, p⟩
  obtain ⟨qx, qy⟩ := hq i H p
  by_cases hlt : i < xs.length
  · have hx : xs[i]? = some xs[i] := List.getElem?_eq_getElem hlt
    have hlt2 : i < ys.length := by omega
    have hy : ys[i]? = some ys[i] := List.getElem?_eq_getElem hlt2
    refine .inr ⟨⟨xs, ys, _, _, qx, qy, hx, hy⟩, Pv (i + 1), fun H' p' => ⟨xs.length - (i + 1), by omega, rfl, hlt, p'⟩, fun v H' y => ?_⟩
    obtain ⟨T, x', y', rfl, hT, rfl, f1, f2⟩ := y
    exact hs i x' y' T H (f1 xs qx) (f2 ys qy) p hT
  · have e : i = xs.length := by omega
    subst e
    exact .inl ⟨⟨xs, ys, qx, qy, Or.inl (Nat.le_refl _)⟩, hd H p⟩
theorem lc_zipT (hl : xs.length = ys.length) (Pv : Nat → Hp → Prop) (h0 : Pv 0 (upd H1 D (.lst []))) (hq : ∀ i H, Pv i H → SqT K H a xs ∧ SqT K H b ys)
    (hs : ∀ (i : Nat) (x y : V) (T : Addr) (H : Hp), xs[i]? = some x → ys[i]? = some y → Pv i H → H T = none → g (.ref T) (wipe σ vs) (upd H T (.tup [x, y])) fun σ2 H2 => wipe σ2 vs = wipe σ vs ∧ tt σ2 H2 fun c H3 =>
      if c = true then te σ2 H3 fun z H4 => ∃ acc, H4 D = some (.lst acc) ∧ acc.length < sizeLine ∧ Pv (i + 1) (upd H4 D (.lst (acc ++ [z]))) else Pv (i + 1) H3) (hd : ∀ H, Pv xs.length H → Qd H) :
    ∃ W : Nat → Nat → Hp → Prop, (∃ m, W 0 m (upd H1 D (.lst []))) ∧ ∀ i m H, W i m H →
      ((ItzT K a b).stop i H ∧ Qd H) ∨ ((ItzT K a b).go i H ∧ ∃ Nx : Hp → Prop, (∀ H', Nx H' → ∃ m', m' < m ∧ W (i + 1) m' H') ∧ ∀ x H', (ItzT K a b).yld i H x H' → g x (wipe σ vs) H' fun σ2 H2 => wipe σ2 vs = wipe σ vs ∧ tt σ2 H2 fun c H3 =>
        if c = true then te σ2 H3 fun z H4 => ∃ acc, H4 D = some (.lst acc) ∧ acc.length < sizeLine ∧ Nx (upd H4 D (.lst (acc ++ [z]))) else Nx H3) := by
  refine ⟨fun i m H => m = xs.length - i ∧ i ≤ xs.length ∧ Pv i H, ⟨xs.length, rfl, Nat.zero_le _, h0⟩, ?_⟩
  rintro i m H ⟨rfl, hi, p⟩
  obtain ⟨qx, qy⟩ := hq i H p
  by_cases hlt : i < xs.length
  · have hx : xs[i]? = some xs[i] := List.getElem?_eq_getElem hlt
    have hlt2 : i < ys.length := by omega
    have hy : ys[i]? = some ys[i] := List.getElem?_eq_getElem hlt2
    refine .inr ⟨⟨xs, ys, _, _, qx, qy, hx, hy⟩, Pv (i + 1), fun H' p' => ⟨xs.length - (i + 1), by omega, rfl, hlt, p'⟩, fun v H' y => ?_⟩
    obtain ⟨T, x', y', rfl, hT, rfl, f1, f2⟩ := y
    exact hs i x' y' T H (f1 xs qx) (f2 ys qy) p hT
  · have e : i = xs.length := by omega
    subst e
    exact .inl ⟨⟨xs, ys, qx, qy, Or.inl (Nat.le_refl _)⟩, hd H p⟩
end
/-! ### two values that are the same, to the depth n: ints, bools, lists and tuples of such -/
inductive Two (K : PySem.W.Frag) (H : Hp) : Nat → V → V → Prop where
  | bl (n : Nat) (b : Bool) : Two K H n (.bl b) (.bl b)
  | int (n : Nat) (i : Int) : Two K H n (.int i) (.int i)
  | non (n : Nat) : Two K H n .non .non
  | str (n : Nat) (x : Str) : Two K H n (.str x) (.str x)
  | lst {n : Nat} {a b : Addr} {xs ys : List V} (ha : H a = some (.lst xs)) (hb : H b = some (.lst ys)) (hl : xs.length = ys.length) (hsz : xs.length ≤ sizeLine) (hi : ∀ (i : Nat) (x y : V), xs[i]? = some x → ys[i]? = some y → Two K H n x y) : Two K H (n + 1) (.ref a) (.ref b)
  | tup {n : Nat} {a b : Addr} {xs ys : List V} (ha : SqT K H a xs) (hb : SqT K H b ys) (hl : xs.length = ys.length) (hsz : xs.length ≤ sizeLine) (hi : ∀ (i : Nat) (x y : V), xs[i]? = some x → ys[i]? = some y → Two K H n x y) : Two K H (n + 1) (.ref a) (.ref b)
theorem Two.same {K : PySem.W.Frag} {H H' : Hp} {n : Nat} {x y : V} (t : Two K H n x y) (s : Same H H') : Two K H' n x y := by
  induction t with
  | bl n b => exact .bl n b
  | int n i => exact .int n i
  | non n => exact .non n
  | str n x => exact .str n x
  | lst ha hb hl hz _ ih => exact .lst (s _ _ ha) (s _ _ hb) hl hz ih
  | tup ha hb hl hz _ ih => exact .tup (SqT.up ha s) (SqT.up hb s) hl hz ih
theorem tyT {K : PySem.W.Frag} {H : Hp} {a : Addr} {xs : List V} (h : SqT K H a xs) : TyX K H (.ref a) (.type "tuple") := by
  rcases h with (h | ⟨ob, h⟩) | ⟨o, its, n, h1, h2, _⟩
  · exact .base (.tup h)
  · exact .fTuple h
  · exact .kTuple h1 h2
def spSame (K : PySem.W.Frag) (n : Nat) : Sp := fun vs H Q _ => ∃ x y, vs = [x, y] ∧ Two K H n x y ∧ ∀ H', Same H H' → Q (.bl true) H'
section
variable {P : Program} {w : World} {K : PySem.W.Frag} {mg : Str → Option Value} {base : Heap} {C : Addr}
theorem scSame : FnScope ["_law_found", "_law_due", "_law_one", "_law_other"] ["_law_found", "_law_due"] (defScope sSame) := ⟨rfl, rfl, rfl, by decide +kernel, rfl, by decide +kernel, by decide +kernel⟩
theorem kit2 {t : String} {b1 b2 r : Bool} (h1 : kitB t "list" = some b1) (h2 : kitB t "tuple" = some b2) (hr : (b1 || b2) = r) : PySem.W.kitAny K (.type t) [.type "list", .type "tuple"] = some r := by
  subst hr
  refine kitAny_cons (b := b1) (kit_ty h1) (fun e => ?_) (fun e => by rw [e]; rfl)
  subst e
  refine kitAny_cons (b := b2) (kit_ty h2) (fun e => ?_) (fun e => by rw [e]; rfl)
  subst e
  exact kitAny_nil
theorem kit3 {t : String} (h1 : kitB t "int" = some false) (h2 : kitB t "list" = some false) (h3 : kitB t "tuple" = some false) : PySem.W.kitAny K (.type t) [.type "int", .type "list", .type "tuple"] = some false := by
  refine kitAny_cons (b := false) (kit_ty h1) (fun _ => ?_) (fun e => by cases e)
  refine kitAny_cons (b := false) (kit_ty h2) (fun _ => ?_) (fun e => by cases e)
  refine kitAny_cons (b := false) (kit_ty h3) (fun _ => ?_) (fun e => by cases e)
  exact kitAny_nil
theorem ok_same {f : Addr} {fd : FuncData} (D : Df K mg "_law_same" sSame f fd ["_law_found", "_law_due"]) (T : Txt K mg) : ∀ n : Nat, FnOk P w K mg base CX0 (n + 1) f fd ["_law_found", "_law_due"] (spSame K n) := by
  have hlen : ∀ n, ∀ vs H Q E, spSame K n vs H Q E → vs.length = (["_law_found", "_law_due"] : List Str).length := fun n vs H Q E h => by
    obtain ⟨x, y, rfl, _⟩ := h
    rfl
  intro n
  induction n with
  | zero =>
    refine D.F.ok scSame (hlen 0) (fun cdv A outer s H vs Q E hr h => ?_)
    obtain ⟨x, y, rfl, t, k⟩ := h
    cases t with
    | int _ i =>
      refine ⟨_, pss_cons (ps_if (pt_val (pe_callB call_isiT (by rfl) T.isi boot_isi (pa_cons (pv 1) (pa_cons (pe_tup (pa_cons (pe_bltn (v := .ty "list") (by rfl) T.list_ boot_list' rfl) (pa_cons (pe_bltn (v := .ty "tuple") (by rfl) T.tup_ boot_tuple' rfl) pa_nil))) pa_nil)))) pss_never pss_nil)
      (pss_cons (ps_if (pt_val (pe_callB call_isi (by rfl) T.isi boot_isi (pa_cons (pv 1) (pa_cons (pe_bltn (v := .ty "int") (by rfl) T.int_ boot_int' rfl) pa_nil))))
        (pss_one (ps_ret (pe_and (pe_callB call_isi (by rfl) T.isi boot_isi (pa_cons (pv 0) (pa_cons (pe_bltn (v := .ty "int") (by rfl) T.int_ boot_int' rfl) pa_nil)))
          (pe_and (pe_cmpR op_eq (pe_callB call_isi (by rfl) T.isi boot_isi (pa_cons (pv 0) (pa_cons (pe_bltn (v := .ty "bool") (by rfl) T.bool_ boot_bool' rfl) pa_nil))) (pe_callB call_isi (by rfl) T.isi boot_isi (pa_cons (pv 1) (pa_cons (pe_bltn (v := .ty "bool") (by rfl) T.bool_ boot_bool' rfl) pa_nil))) (nomark _))
            (pe_one (pe_cmpR op_eq (pv 0) (pv 1) (nomark _))))))) pss_nil) pss_never), ?_⟩
      refine ⟨_, rfl, by show 2 ≤ sizeLine; decide, fun tp htp => ⟨_, tp, _, _, [.type "list", .type "tuple"], _, rfl, upd_same, .cons (.ty _) (.cons (.ty _) .nil), .base (.int i), kit2 (b1 := false) (b2 := false) (by decide +kernel) (by decide +kernel) rfl, _, rfl, iteF ?_⟩⟩
      refine ⟨_, rfl, _, _, _, _, _, rfl, .ty _, .base (.int i), kit_ty (b := "int") (r := true) (by decide +kernel), _, rfl, iteT ?_⟩
      refine ⟨_, rfl, _, _, _, _, _, rfl, .ty _, .base (.int i), kit_ty (b := "int") (r := true) (by decide +kernel), _, rfl, iteT ?_⟩
      refine ⟨_, rfl, _, _, _, _, _, rfl, .ty _, .base (.int i), kit_ty (b := "bool") (r := false) (by decide +kernel), _, rfl, _, _, _, _, _, rfl, .ty _, .base (.int i), kit_ty (b := "bool") (r := false) (by decide +kernel), rfl, _, rfl, ifD_yes rfl ?_⟩
      refine ⟨_, rfl, _, rfl, rfl, ?_⟩
      show Q (V.bl (decide (V.int i = V.int i))) _
      rw [decide_eq_true rfl]
      exact k _ (new_ htp)
    | bl _ b =>
      refine ⟨_, pss_cons (ps_if (pt_val (pe_callB call_isiT (by rfl) T.isi boot_isi (pa_cons (pv 1) (pa_cons (pe_tup (pa_cons (pe_bltn (v := .ty "list") (by rfl) T.list_ boot_list' rfl) (pa_cons (pe_bltn (v := .ty "tuple") (by rfl) T.tup_ boot_tuple' rfl) pa_nil))) pa_nil)))) pss_never pss_nil)
      (pss_cons (ps_if (pt_val (pe_callB call_isi (by rfl) T.isi boot_isi (pa_cons (pv 1) (pa_cons (pe_bltn (v := .ty "int") (by rfl) T.int_ boot_int' rfl) pa_nil))))
        (pss_one (ps_ret (pe_and (pe_callB call_isi (by rfl) T.isi boot_isi (pa_cons (pv 0) (pa_cons (pe_bltn (v := .ty "int") (by rfl) T.int_ boot_int' rfl) pa_nil)))
          (pe_and (pe_cmpR op_eq (pe_callB call_isi (by rfl) T.isi boot_isi (pa_cons (pv 0) (pa_cons (pe_bltn (v := .ty "bool") (by rfl) T.bool_ boot_bool' rfl) pa_nil))) (pe_callB call_isi (by rfl) T.isi boot_isi (pa_cons (pv 1) (pa_cons (pe_bltn (v := .ty "bool") (by rfl) T.bool_ boot_bool' rfl) pa_nil))) (nomark _))
            (pe_one (pe_cmpR op_eq (pv 0) (pv 1) (nomark _))))))) pss_nil) pss_never), ?_⟩
      refine ⟨_, rfl, by show 2 ≤ sizeLine; decide, fun tp htp => ⟨_, tp, _, _, [.type "list", .type "tuple"], _, rfl, upd_same, .cons (.ty _) (.cons (.ty _) .nil), .base (.bl b), kit2 (b1 := false) (b2 := false) (by decide +kernel) (by decide +kernel) rfl, _, rfl, iteF ?_⟩⟩
      refine ⟨_, rfl, _, _, _, _, _, rfl, .ty _, .base (.bl b), kit_ty (b := "int") (r := true) (by decide +kernel), _, rfl, iteT ?_⟩
      refine ⟨_, rfl, _, _, _, _, _, rfl, .ty _, .base (.bl b), kit_ty (b := "int") (r := true) (by decide +kernel), _, rfl, iteT ?_⟩
      refine ⟨_, rfl, _, _, _, _, _, rfl, .ty _, .base (.bl b), kit_ty (b := "bool") (r := true) (by decide +kernel), _, rfl, _, _, _, _, _, rfl, .ty _, .base (.bl b), kit_ty (b := "bool") (r := true) (by decide +kernel), rfl, _, rfl, ifD_yes rfl ?_⟩
      refine ⟨_, rfl, _, rfl, rfl, ?_⟩
      show Q (V.bl (decide (V.bl b = V.bl b))) _
      rw [decide_eq_true rfl]
      exact k _ (new_ htp)
    | non _ =>
      refine ⟨_, pss_cons (ps_if (pt_val (pe_callB call_isiT (by rfl) T.isi boot_isi (pa_cons (pv 1) (pa_cons (pe_tup (pa_cons (pe_bltn (v := .ty "list") (by rfl) T.list_ boot_list' rfl) (pa_cons (pe_bltn (v := .ty "tuple") (by rfl) T.tup_ boot_tuple' rfl) pa_nil))) pa_nil)))) pss_never pss_nil)
      (pss_cons (ps_if (pt_val (pe_callB call_isi (by rfl) T.isi boot_isi (pa_cons (pv 1) (pa_cons (pe_bltn (v := .ty "int") (by rfl) T.int_ boot_int' rfl) pa_nil)))) pss_never pss_nil)
      (pss_one (ps_ret (pe_and (pe_cmpR op_eq (pv 0) (pv 1) (nomark _)) (pe_one (pe_cmpR op_is_bl (pe_callB call_isiT (by rfl) T.isi boot_isi (pa_cons (pv 0) (pa_cons (pe_tup (pa_cons (pe_bltn (v := .ty "int") (by rfl) T.int_ boot_int' rfl) (pa_cons (pe_bltn (v := .ty "list") (by rfl) T.list_ boot_list' rfl) (pa_cons (pe_bltn (v := .ty "tuple") (by rfl) T.tup_ boot_tuple' rfl) pa_nil)))) pa_nil))) pe_bl (nomark _))))))), ?_⟩
      refine ⟨_, rfl, by show 2 ≤ sizeLine; decide, fun tp htp => ⟨_, tp, _, _, [.type "list", .type "tuple"], _, rfl, upd_same, .cons (.ty _) (.cons (.ty _) .nil), .base .non, kit2 (b1 := false) (b2 := false) (by decide +kernel) (by decide +kernel) rfl, _, rfl, iteF ?_⟩⟩
      refine ⟨_, rfl, _, _, _, _, _, rfl, .ty _, .base .non, kit_ty (b := "int") (r := false) (by decide +kernel), _, rfl, iteF ?_⟩
      refine ⟨_, rfl, _, rfl, rfl, _, rfl, ifD_yes rfl ?_⟩
      refine ⟨_, rfl, by show 3 ≤ sizeLine; decide, fun tq htq => ⟨_, tq, _, _, [.type "int", .type "list", .type "tuple"], _, rfl, upd_same, .cons (.ty _) (.cons (.ty _) (.cons (.ty _) .nil)), .base .non, kit3 (by decide +kernel) (by decide +kernel) (by decide +kernel), _, _, rfl, rfl, ?_⟩⟩
      exact k _ ((new_ htp).trans (new_ htq))
    | str _ x =>
      refine ⟨_, pss_cons (ps_if (pt_val (pe_callB call_isiT (by rfl) T.isi boot_isi (pa_cons (pv 1) (pa_cons (pe_tup (pa_cons (pe_bltn (v := .ty "list") (by rfl) T.list_ boot_list' rfl) (pa_cons (pe_bltn (v := .ty "tuple") (by rfl) T.tup_ boot_tuple' rfl) pa_nil))) pa_nil)))) pss_never pss_nil)
      (pss_cons (ps_if (pt_val (pe_callB call_isi (by rfl) T.isi boot_isi (pa_cons (pv 1) (pa_cons (pe_bltn (v := .ty "int") (by rfl) T.int_ boot_int' rfl) pa_nil)))) pss_never pss_nil)
      (pss_one (ps_ret (pe_and (pe_cmpR op_eq (pv 0) (pv 1) (nomark _)) (pe_one (pe_cmpR op_is_bl (pe_callB call_isiT (by rfl) T.isi boot_isi (pa_cons (pv 0) (pa_cons (pe_tup (pa_cons (pe_bltn (v := .ty "int") (by rfl) T.int_ boot_int' rfl) (pa_cons (pe_bltn (v := .ty "list") (by rfl) T.list_ boot_list' rfl) (pa_cons (pe_bltn (v := .ty "tuple") (by rfl) T.tup_ boot_tuple' rfl) pa_nil)))) pa_nil))) pe_bl (nomark _))))))), ?_⟩
      refine ⟨_, rfl, by show 2 ≤ sizeLine; decide, fun tp htp => ⟨_, tp, _, _, [.type "list", .type "tuple"], _, rfl, upd_same, .cons (.ty _) (.cons (.ty _) .nil), .base (.str x), kit2 (b1 := false) (b2 := false) (by decide +kernel) (by decide +kernel) rfl, _, rfl, iteF ?_⟩⟩
      refine ⟨_, rfl, _, _, _, _, _, rfl, .ty _, .base (.str x), kit_ty (b := "int") (r := false) (by decide +kernel), _, rfl, iteF ?_⟩
      refine ⟨_, rfl, _, rfl, rfl, _, rfl, ifD_yes rfl ?_⟩
      refine ⟨_, rfl, by show 3 ≤ sizeLine; decide, fun tq htq => ⟨_, tq, _, _, [.type "int", .type "list", .type "tuple"], _, rfl, upd_same, .cons (.ty _) (.cons (.ty _) (.cons (.ty _) .nil)), .base (.str x), kit3 (by decide +kernel) (by decide +kernel) (by decide +kernel), _, _, rfl, rfl, ?_⟩⟩
      exact k _ ((new_ htp).trans (new_ htq))
  | succ n ih =>
    refine D.F.ok scSame (hlen (n + 1)) (fun cdv A outer s H vs Q E hr h => ?_)
    obtain ⟨x, y, rfl, t, k⟩ := h
    cases t with
    | int _ i =>
      refine ⟨_, pss_cons (ps_if (pt_val (pe_callB call_isiT (by rfl) T.isi boot_isi (pa_cons (pv 1) (pa_cons (pe_tup (pa_cons (pe_bltn (v := .ty "list") (by rfl) T.list_ boot_list' rfl) (pa_cons (pe_bltn (v := .ty "tuple") (by rfl) T.tup_ boot_tuple' rfl) pa_nil))) pa_nil)))) pss_never pss_nil)
      (pss_cons (ps_if (pt_val (pe_callB call_isi (by rfl) T.isi boot_isi (pa_cons (pv 1) (pa_cons (pe_bltn (v := .ty "int") (by rfl) T.int_ boot_int' rfl) pa_nil))))
        (pss_one (ps_ret (pe_and (pe_callB call_isi (by rfl) T.isi boot_isi (pa_cons (pv 0) (pa_cons (pe_bltn (v := .ty "int") (by rfl) T.int_ boot_int' rfl) pa_nil)))
          (pe_and (pe_cmpR op_eq (pe_callB call_isi (by rfl) T.isi boot_isi (pa_cons (pv 0) (pa_cons (pe_bltn (v := .ty "bool") (by rfl) T.bool_ boot_bool' rfl) pa_nil))) (pe_callB call_isi (by rfl) T.isi boot_isi (pa_cons (pv 1) (pa_cons (pe_bltn (v := .ty "bool") (by rfl) T.bool_ boot_bool' rfl) pa_nil))) (nomark _))
            (pe_one (pe_cmpR op_eq (pv 0) (pv 1) (nomark _))))))) pss_nil) pss_never), ?_⟩
      refine ⟨_, rfl, by show 2 ≤ sizeLine; decide, fun tp htp => ⟨_, tp, _, _, [.type "list", .type "tuple"], _, rfl, upd_same, .cons (.ty _) (.cons (.ty _) .nil), .base (.int i), kit2 (b1 := false) (b2 := false) (by decide +kernel) (by decide +kernel) rfl, _, rfl, iteF ?_⟩⟩
      refine ⟨_, rfl, _, _, _, _, _, rfl, .ty _, .base (.int i), kit_ty (b := "int") (r := true) (by decide +kernel), _, rfl, iteT ?_⟩
      refine ⟨_, rfl, _, _, _, _, _, rfl, .ty _, .base (.int i), kit_ty (b := "int") (r := true) (by decide +kernel), _, rfl, iteT ?_⟩
      refine ⟨_, rfl, _, _, _, _, _, rfl, .ty _, .base (.int i), kit_ty (b := "bool") (r := false) (by decide +kernel), _, rfl, _, _, _, _, _, rfl, .ty _, .base (.int i), kit_ty (b := "bool") (r := false) (by decide +kernel), rfl, _, rfl, ifD_yes rfl ?_⟩
      refine ⟨_, rfl, _, rfl, rfl, ?_⟩
      show Q (V.bl (decide (V.int i = V.int i))) _
      rw [decide_eq_true rfl]
      exact k _ (new_ htp)
    | bl _ b =>
      refine ⟨_, pss_cons (ps_if (pt_val (pe_callB call_isiT (by rfl) T.isi boot_isi (pa_cons (pv 1) (pa_cons (pe_tup (pa_cons (pe_bltn (v := .ty "list") (by rfl) T.list_ boot_list' rfl) (pa_cons (pe_bltn (v := .ty "tuple") (by rfl) T.tup_ boot_tuple' rfl) pa_nil))) pa_nil)))) pss_never pss_nil)
      (pss_cons (ps_if (pt_val (pe_callB call_isi (by rfl) T.isi boot_isi (pa_cons (pv 1) (pa_cons (pe_bltn (v := .ty "int") (by rfl) T.int_ boot_int' rfl) pa_nil))))
        (pss_one (ps_ret (pe_and (pe_callB call_isi (by rfl) T.isi boot_isi (pa_cons (pv 0) (pa_cons (pe_bltn (v := .ty "int") (by rfl) T.int_ boot_int' rfl) pa_nil)))
          (pe_and (pe_cmpR op_eq (pe_callB call_isi (by rfl) T.isi boot_isi (pa_cons (pv 0) (pa_cons (pe_bltn (v := .ty "bool") (by rfl) T.bool_ boot_bool' rfl) pa_nil))) (pe_callB call_isi (by rfl) T.isi boot_isi (pa_cons (pv 1) (pa_cons (pe_bltn (v := .ty "bool") (by rfl) T.bool_ boot_bool' rfl) pa_nil))) (nomark _))
            (pe_one (pe_cmpR op_eq (pv 0) (pv 1) (nomark _))))))) pss_nil) pss_never), ?_⟩
      refine ⟨_, rfl, by show 2 ≤ sizeLine; decide, fun tp htp => ⟨_, tp, _, _, [.type "list", .type "tuple"], _, rfl, upd_same, .cons (.ty _) (.cons (.ty _) .nil), .base (.bl b), kit2 (b1 := false) (b2 := false) (by decide +kernel) (by decide +kernel) rfl, _, rfl, iteF ?_⟩⟩
      refine ⟨_, rfl, _, _, _, _, _, rfl, .ty _, .base (.bl b), kit_ty (b := "int") (r := true) (by decide +kernel), _, rfl, iteT ?_⟩
      refine ⟨_, rfl, _, _, _, _, _, rfl, .ty _, .base (.bl b), kit_ty (b := "int") (r := true) (by decide +kernel), _, rfl, iteT ?_⟩
      refine ⟨_, rfl, _, _, _, _, _, rfl, .ty _, .base (.bl b), kit_ty (b := "bool") (r := true) (by decide +kernel), _, rfl, _, _, _, _, _, rfl, .ty _, .base (.bl b), kit_ty (b := "bool") (r := true) (by decide +kernel), rfl, _, rfl, ifD_yes rfl ?_⟩
      refine ⟨_, rfl, _, rfl, rfl, ?_⟩
      show Q (V.bl (decide (V.bl b = V.bl b))) _
      rw [decide_eq_true rfl]
      exact k _ (new_ htp)
    | non _ =>
      refine ⟨_, pss_cons (ps_if (pt_val (pe_callB call_isiT (by rfl) T.isi boot_isi (pa_cons (pv 1) (pa_cons (pe_tup (pa_cons (pe_bltn (v := .ty "list") (by rfl) T.list_ boot_list' rfl) (pa_cons (pe_bltn (v := .ty "tuple") (by rfl) T.tup_ boot_tuple' rfl) pa_nil))) pa_nil)))) pss_never pss_nil)
      (pss_cons (ps_if (pt_val (pe_callB call_isi (by rfl) T.isi boot_isi (pa_cons (pv 1) (pa_cons (pe_bltn (v := .ty "int") (by rfl) T.int_ boot_int' rfl) pa_nil)))) pss_never pss_nil)
      (pss_one (ps_ret (pe_and (pe_cmpR op_eq (pv 0) (pv 1) (nomark _)) (pe_one (pe_cmpR op_is_bl (pe_callB call_isiT (by rfl) T.isi boot_isi (pa_cons (pv 0) (pa_cons (pe_tup (pa_cons (pe_bltn (v := .ty "int") (by rfl) T.int_ boot_int' rfl) (pa_cons (pe_bltn (v := .ty "list") (by rfl) T.list_ boot_list' rfl) (pa_cons (pe_bltn (v := .ty "tuple") (by rfl) T.tup_ boot_tuple' rfl) pa_nil)))) pa_nil))) pe_bl (nomark _))))))), ?_⟩
      refine ⟨_, rfl, by show 2 ≤ sizeLine; decide, fun tp htp => ⟨_, tp, _, _, [.type "list", .type "tuple"], _, rfl, upd_same, .cons (.ty _) (.cons (.ty _) .nil), .base .non, kit2 (b1 := false) (b2 := false) (by decide +kernel) (by decide +kernel) rfl, _, rfl, iteF ?_⟩⟩
      refine ⟨_, rfl, _, _, _, _, _, rfl, .ty _, .base .non, kit_ty (b := "int") (r := false) (by decide +kernel), _, rfl, iteF ?_⟩
      refine ⟨_, rfl, _, rfl, rfl, _, rfl, ifD_yes rfl ?_⟩
      refine ⟨_, rfl, by show 3 ≤ sizeLine; decide, fun tq htq => ⟨_, tq, _, _, [.type "int", .type "list", .type "tuple"], _, rfl, upd_same, .cons (.ty _) (.cons (.ty _) (.cons (.ty _) .nil)), .base .non, kit3 (by decide +kernel) (by decide +kernel) (by decide +kernel), _, _, rfl, rfl, ?_⟩⟩
      exact k _ ((new_ htp).trans (new_ htq))
    | str _ x =>
      refine ⟨_, pss_cons (ps_if (pt_val (pe_callB call_isiT (by rfl) T.isi boot_isi (pa_cons (pv 1) (pa_cons (pe_tup (pa_cons (pe_bltn (v := .ty "list") (by rfl) T.list_ boot_list' rfl) (pa_cons (pe_bltn (v := .ty "tuple") (by rfl) T.tup_ boot_tuple' rfl) pa_nil))) pa_nil)))) pss_never pss_nil)
      (pss_cons (ps_if (pt_val (pe_callB call_isi (by rfl) T.isi boot_isi (pa_cons (pv 1) (pa_cons (pe_bltn (v := .ty "int") (by rfl) T.int_ boot_int' rfl) pa_nil)))) pss_never pss_nil)
      (pss_one (ps_ret (pe_and (pe_cmpR op_eq (pv 0) (pv 1) (nomark _)) (pe_one (pe_cmpR op_is_bl (pe_callB call_isiT (by rfl) T.isi boot_isi (pa_cons (pv 0) (pa_cons (pe_tup (pa_cons (pe_bltn (v := .ty "int") (by rfl) T.int_ boot_int' rfl) (pa_cons (pe_bltn (v := .ty "list") (by rfl) T.list_ boot_list' rfl) (pa_cons (pe_bltn (v := .ty "tuple") (by rfl) T.tup_ boot_tuple' rfl) pa_nil)))) pa_nil))) pe_bl (nomark _))))))), ?_⟩
      refine ⟨_, rfl, by show 2 ≤ sizeLine; decide, fun tp htp => ⟨_, tp, _, _, [.type "list", .type "tuple"], _, rfl, upd_same, .cons (.ty _) (.cons (.ty _) .nil), .base (.str x), kit2 (b1 := false) (b2 := false) (by decide +kernel) (by decide +kernel) rfl, _, rfl, iteF ?_⟩⟩
      refine ⟨_, rfl, _, _, _, _, _, rfl, .ty _, .base (.str x), kit_ty (b := "int") (r := false) (by decide +kernel), _, rfl, iteF ?_⟩
      refine ⟨_, rfl, _, rfl, rfl, _, rfl, ifD_yes rfl ?_⟩
      refine ⟨_, rfl, by show 3 ≤ sizeLine; decide, fun tq htq => ⟨_, tq, _, _, [.type "int", .type "list", .type "tuple"], _, rfl, upd_same, .cons (.ty _) (.cons (.ty _) (.cons (.ty _) .nil)), .base (.str x), kit3 (by decide +kernel) (by decide +kernel) (by decide +kernel), _, _, rfl, rfl, ?_⟩⟩
      exact k _ ((new_ htp).trans (new_ htq))
    | @lst _ a b xs ys ha hb hl hsz hi =>
      refine ⟨_, pss_cons (ps_if (pt_val (pe_callB call_isiT (by rfl) T.isi boot_isi (pa_cons (pv 1) (pa_cons (pe_tup (pa_cons (pe_bltn (v := .ty "list") (by rfl) T.list_ boot_list' rfl) (pa_cons (pe_bltn (v := .ty "tuple") (by rfl) T.tup_ boot_tuple' rfl) pa_nil))) pa_nil))))
      (pss_cons (ps_if (PW.pt (pw_or (pt_cmpR op_ne (pe_callB call_isi (by rfl) T.isi boot_isi (pa_cons (pv 0) (pa_cons (pe_bltn (v := .ty "list") (by rfl) T.list_ boot_list' rfl) pa_nil))) (pe_callB call_isi (by rfl) T.isi boot_isi (pa_cons (pv 1) (pa_cons (pe_bltn (v := .ty "list") (by rfl) T.list_ boot_list' rfl) pa_nil))) (nomark _)) (pw_or1 (pt_cmpR op_ne (pe_callB call_isi (by rfl) T.isi boot_isi (pa_cons (pv 0) (pa_cons (pe_bltn (v := .ty "tuple") (by rfl) T.tup_ boot_tuple' rfl) pa_nil))) (pe_callB call_isi (by rfl) T.isi boot_isi (pa_cons (pv 1) (pa_cons (pe_bltn (v := .ty "tuple") (by rfl) T.tup_ boot_tuple' rfl) pa_nil))) (nomark _))))) pss_never pss_nil)
        (pss_one (ps_ret (pe_and (pe_cmpR op_eq (pe_callB call_len_seq (by rfl) T.len_ PySem.boot_len (pa_cons (pv 0) pa_nil)) (pe_callB call_len_seq (by rfl) T.len_ PySem.boot_len (pa_cons (pv 1) pa_nil)) (nomark _))
          (pe_one (pe_callB (cr_all rfl) (by rfl) T.all_ boot_all' (pa_cons (pe_lc (own := [("_law_one", 2), ("_law_other", 3)]) (g := gTup K 2 (gCons (gName 2) (gCons (gName 3) gNil))) (tt := tYes) (by rfl) scSame.nd (pi_zipA (by rfl) T.zip_ (pa_cons (pv 0) (pa_cons (pv 1) pa_nil))) (blkOk_by (N := ["_law_found", "_law_due", "_law_one", "_law_other"]) (sc := defScope sSame) (by decide +kernel))
            (fun _ _ _ _ _ => by exact pg_tup rfl (pgs_cons (pg_name (i := 2) scSame.nd rfl (Or.inl rfl)) (pgs_cons (pg_name (i := 3) scSame.nd rfl (Or.inl rfl)) pgs_nil))) (fun _ _ _ _ _ => pts_nil)
            (fun _ _ _ _ _ => pe_call ih hr rfl D.M D.F.kp D.B .nil pass0 (pa_cons (pv 2) (pa_cons (pv 3) pa_nil)))) pa_nil))))))) pss_nil) pss_never, ?_⟩
      refine ⟨_, rfl, by show 2 ≤ sizeLine; decide, fun tp htp => ?_⟩
      have s1 : Same H (upd H tp (.tup [.ty "list", .ty "tuple"])) := new_ htp
      have hA := s1 _ _ ha
      have hB := s1 _ _ hb
      refine ⟨_, tp, _, _, [.type "list", .type "tuple"], _, rfl, upd_same, .cons (.ty _) (.cons (.ty _) .nil), .base (.lst hB), kit2 (b1 := true) (b2 := false) (by decide +kernel) (by decide +kernel) rfl, _, rfl, iteT ?_⟩
      refine ⟨_, rfl, _, _, _, _, _, rfl, .ty _, .base (.lst hA), kit_ty (b := "list") (r := true) (by decide +kernel), _, rfl, _, _, _, _, _, rfl, .ty _, .base (.lst hB), kit_ty (b := "list") (r := true) (by decide +kernel), rfl, _, rfl, iteNS rfl ?_⟩
      refine ⟨_, rfl, _, _, _, _, _, rfl, .ty _, .base (.lst hA), kit_ty (b := "tuple") (r := false) (by decide +kernel), _, rfl, _, _, _, _, _, rfl, .ty _, .base (.lst hB), kit_ty (b := "tuple") (r := false) (by decide +kernel), rfl, _, rfl, iteNS rfl ?_⟩
      refine ⟨_, rfl, _, _, rfl, .inl (SqL.of hA), _, rfl, _, _, rfl, .inl (SqL.of hB), rfl, _, rfl, ifD_yes (by rw [hl]) ?_⟩
      refine ⟨_, rfl, _, rfl, _, _, xs, ys, rfl, .inl ⟨SqL.of hA, SqL.of hB, fun Dd hD => ?_⟩⟩
      refine lc_zipL hl (fun i H' => Same (upd H tp (.tup [.ty "list", .ty "tuple"])) H' ∧ H' Dd = some (.lst ((List.replicate i true).map V.bl))) ⟨new_ hD, upd_same⟩ (fun i H' q => ⟨SqL.of (q.1 _ _ hA), SqL.of (q.1 _ _ hB)⟩) ?_ ?_
      · rintro i x y tt H' hx hy ⟨sm, hd⟩ ht
        refine ⟨tt, _, rfl, SqT.of upd_same, rfl, _, _, rfl, _, _, rfl, rfl, rfl, ?_⟩
        dsimp only [tYes]
        rw [if_pos rfl]
        have s2 : Same H' (upd H' tt (.tup [x, y])) := new_ ht
        refine ⟨_, rfl, _, rfl, x, y, rfl, ((hi i x y hx hy).same s1).same (sm.trans s2), fun H2 s3 => ⟨_, s3 _ _ (s2 _ _ hd), ?_, ?_, ?_⟩⟩
        · rw [List.length_map, List.length_replicate]
          exact Nat.lt_of_lt_of_le (List.getElem?_eq_some_iff.mp hx).1 hsz
        · intro c o e
          rw [upd_ne (ne_of_none e hD)]
          exact s3 _ _ (s2 _ _ (sm _ _ e))
        · rw [upd_same, List.replicate_succ', List.map_append]
          rfl
      · rintro H' ⟨sm, hd⟩
        refine ⟨Dd, _, rfl, SqL.of hd, ?_⟩
        have ea : (List.replicate xs.length true).all id = true := by
          rw [List.all_eq_true]
          intro x hx
          rw [(List.mem_replicate.mp hx).2]
          rfl
        rw [ea]
        exact k _ (s1.trans sm)
    | @tup _ a b xs ys ha hb hl hsz hi =>
      refine ⟨_, pss_cons (ps_if (pt_val (pe_callB call_isiT (by rfl) T.isi boot_isi (pa_cons (pv 1) (pa_cons (pe_tup (pa_cons (pe_bltn (v := .ty "list") (by rfl) T.list_ boot_list' rfl) (pa_cons (pe_bltn (v := .ty "tuple") (by rfl) T.tup_ boot_tuple' rfl) pa_nil))) pa_nil))))
      (pss_cons (ps_if (PW.pt (pw_or (pt_cmpR op_ne (pe_callB call_isi (by rfl) T.isi boot_isi (pa_cons (pv 0) (pa_cons (pe_bltn (v := .ty "list") (by rfl) T.list_ boot_list' rfl) pa_nil))) (pe_callB call_isi (by rfl) T.isi boot_isi (pa_cons (pv 1) (pa_cons (pe_bltn (v := .ty "list") (by rfl) T.list_ boot_list' rfl) pa_nil))) (nomark _)) (pw_or1 (pt_cmpR op_ne (pe_callB call_isi (by rfl) T.isi boot_isi (pa_cons (pv 0) (pa_cons (pe_bltn (v := .ty "tuple") (by rfl) T.tup_ boot_tuple' rfl) pa_nil))) (pe_callB call_isi (by rfl) T.isi boot_isi (pa_cons (pv 1) (pa_cons (pe_bltn (v := .ty "tuple") (by rfl) T.tup_ boot_tuple' rfl) pa_nil))) (nomark _))))) pss_never pss_nil)
        (pss_one (ps_ret (pe_and (pe_cmpR op_eq (pe_callB call_len_seq (by rfl) T.len_ PySem.boot_len (pa_cons (pv 0) pa_nil)) (pe_callB call_len_seq (by rfl) T.len_ PySem.boot_len (pa_cons (pv 1) pa_nil)) (nomark _))
          (pe_one (pe_callB (cr_all rfl) (by rfl) T.all_ boot_all' (pa_cons (pe_lc (own := [("_law_one", 2), ("_law_other", 3)]) (g := gTup K 2 (gCons (gName 2) (gCons (gName 3) gNil))) (tt := tYes) (by rfl) scSame.nd (pi_zipA (by rfl) T.zip_ (pa_cons (pv 0) (pa_cons (pv 1) pa_nil))) (blkOk_by (N := ["_law_found", "_law_due", "_law_one", "_law_other"]) (sc := defScope sSame) (by decide +kernel))
            (fun _ _ _ _ _ => by exact pg_tup rfl (pgs_cons (pg_name (i := 2) scSame.nd rfl (Or.inl rfl)) (pgs_cons (pg_name (i := 3) scSame.nd rfl (Or.inl rfl)) pgs_nil))) (fun _ _ _ _ _ => pts_nil)
            (fun _ _ _ _ _ => pe_call ih hr rfl D.M D.F.kp D.B .nil pass0 (pa_cons (pv 2) (pa_cons (pv 3) pa_nil)))) pa_nil))))))) pss_nil) pss_never, ?_⟩
      refine ⟨_, rfl, by show 2 ≤ sizeLine; decide, fun tp htp => ?_⟩
      have s1 : Same H (upd H tp (.tup [.ty "list", .ty "tuple"])) := new_ htp
      have hA := SqT.up ha s1
      have hB := SqT.up hb s1
      refine ⟨_, tp, _, _, [.type "list", .type "tuple"], _, rfl, upd_same, .cons (.ty _) (.cons (.ty _) .nil), tyT hB, kit2 (b1 := false) (b2 := true) (by decide +kernel) (by decide +kernel) rfl, _, rfl, iteT ?_⟩
      refine ⟨_, rfl, _, _, _, _, _, rfl, .ty _, tyT hA, kit_ty (b := "list") (r := false) (by decide +kernel), _, rfl, _, _, _, _, _, rfl, .ty _, tyT hB, kit_ty (b := "list") (r := false) (by decide +kernel), rfl, _, rfl, iteNS rfl ?_⟩
      refine ⟨_, rfl, _, _, _, _, _, rfl, .ty _, tyT hA, kit_ty (b := "tuple") (r := true) (by decide +kernel), _, rfl, _, _, _, _, _, rfl, .ty _, tyT hB, kit_ty (b := "tuple") (r := true) (by decide +kernel), rfl, _, rfl, iteNS rfl ?_⟩
      refine ⟨_, rfl, _, _, rfl, .inr (hA), _, rfl, _, _, rfl, .inr (hB), rfl, _, rfl, ifD_yes (by rw [hl]) ?_⟩
      refine ⟨_, rfl, _, rfl, _, _, xs, ys, rfl, .inr ⟨hA, hB, fun Dd hD => ?_⟩⟩
      refine lc_zipT hl (fun i H' => Same (upd H tp (.tup [.ty "list", .ty "tuple"])) H' ∧ H' Dd = some (.lst ((List.replicate i true).map V.bl))) ⟨new_ hD, upd_same⟩ (fun i H' q => ⟨SqT.up hA q.1, SqT.up hB q.1⟩) ?_ ?_
      · rintro i x y tt H' hx hy ⟨sm, hd⟩ ht
        refine ⟨tt, _, rfl, SqT.of upd_same, rfl, _, _, rfl, _, _, rfl, rfl, rfl, ?_⟩
        dsimp only [tYes]
        rw [if_pos rfl]
        have s2 : Same H' (upd H' tt (.tup [x, y])) := new_ ht
        refine ⟨_, rfl, _, rfl, x, y, rfl, ((hi i x y hx hy).same s1).same (sm.trans s2), fun H2 s3 => ⟨_, s3 _ _ (s2 _ _ hd), ?_, ?_, ?_⟩⟩
        · rw [List.length_map, List.length_replicate]
          exact Nat.lt_of_lt_of_le (List.getElem?_eq_some_iff.mp hx).1 hsz
        · intro c o e
          rw [upd_ne (ne_of_none e hD)]
          exact s3 _ _ (s2 _ _ (sm _ _ e))
        · rw [upd_same, List.replicate_succ', List.map_append]
          rfl
      · rintro H' ⟨sm, hd⟩
        refine ⟨Dd, _, rfl, SqL.of hd, ?_⟩
        have ea : (List.replicate xs.length true).all id = true := by
          rw [List.all_eq_true]
          intro x hx
          rw [(List.mem_replicate.mp hx).2]
          rfl
        rw [ea]
        exact k _ (s1.trans sm)
end
end PA

set_option maxHeartbeats 2000000
namespace PLow
open PySem PySem.W PySem.Calls PyProof.Rows
section
variable {prog : Program} {w : World} {M : Model} {A : Around} {E : Value → Shared → Prop} {s : Shared} {K : Frag} {x C L f : Addr} {h₀ : Heap} {m : Str → Option Value} {ox : Obj} {od : Option Obj} {nm : String}

/-- an int's own slot declines an instance -/
theorem add_declines {a : Int} {t : Tok} {R : PySem.Fin → Shared → Prop} (ho : s.heap.get? x = some ox) (hd : ∀ v, ox.data ≠ .prim v) (h : R (.done (.ret .notImplemented)) s) :
    wpAny (model prog w) A (Builtin.«int.__add__» ⟨[Value.int a t, Value.ref x], []⟩) R E s := by
  obtain ⟨hp, g, d, tk, os⟩ := s
  wp_walk
  split
  · rename_i e
    exact absurd e (hd _)
  · wp_walk
    exact h
theorem sub_declines {a : Int} {t : Tok} {R : PySem.Fin → Shared → Prop} (ho : s.heap.get? x = some ox) (hd : ∀ v, ox.data ≠ .prim v) (h : R (.done (.ret .notImplemented)) s) :
    wpAny (model prog w) A (Builtin.«int.__sub__» ⟨[Value.int a t, Value.ref x], []⟩) R E s := by
  obtain ⟨hp, g, d, tk, os⟩ := s
  wp_walk
  split
  · rename_i e
    exact absurd e (hd _)
  · wp_walk
    exact h
theorem mul_declines {a : Int} {t : Tok} {R : PySem.Fin → Shared → Prop} (ho : s.heap.get? x = some ox) (hd : ∀ v, ox.data ≠ .prim v) (h : R (.done (.ret .notImplemented)) s) :
    wpAny (model prog w) A (Builtin.«int.__mul__» ⟨[Value.int a t, Value.ref x], []⟩) R E s := by
  obtain ⟨hp, g, d, tk, os⟩ := s
  wp_walk
  split
  · rename_i e
    exact absurd e (hd _)
  · wp_walk
    exact h

/-- the left operand's own slot, the right one declines: an int and an instance with the reflected method -/
theorem rbin {op : Operator} {id : String} {a : Int} {t : Tok} {B : Builtin} {Q : Value → Shared → Prop} {g : Addr} (F : Fr h₀ L s.heap m) (X₀ : K.In h₀) (I : InstAt s.heap x ox C od) (hc : selfFirst K C = true)
    (hs : findIn K (.ref C) (PySem.dunder op.info.2) = some (some (.ref g))) (hr : findIn K (.ref C) (dunderR op.info.2) = some (some (.ref f))) (hf : isFn K (.ref f) = true)
    (hfT : fillsNumberSlot (.type "int") op.info.2 = pure true) (hsub : subIn K (.ref C) (.type "int") = some false)
    (slot : Slot "int" (PySem.dunder op.info.2) id) (entry : entryFor table id = some B) (args : argsOk id ⟨[Value.int a t, .ref x], []⟩)
    (dec : ∀ (A : Around) (E : Value → Shared → Prop) (R : PySem.Fin → Shared → Prop), R (.done (.ret .notImplemented)) s → wpAny (model prog w) A (B ⟨[Value.int a t, .ref x], []⟩) R E s)
    (h : wpAny (model prog w) A (call (.ref f) [.ref x, .int a t]) (PySem.W.CmpBack Q) E s) : wpAny (model prog w) A (binaryOp op (.int a t) (.ref x)) Q E s := by
  have X := X₀.keeps F.keep
  obtain ⟨cd, rest, hcd, hm⟩ := ksp_first hc
  rcases hi : op.info with ⟨sym, nm'⟩
  rw [hi] at hs hr hfT slot
  dsimp only at hs hr hfT slot
  have one := ksp_try X I hr hf h
  have L0 : Looks (model prog w) s.heap (typeOf (.int a t)) (.type "int") := Looks.of_pure rfl
  have L1 : Looks (model prog w) s.heap (typeOf (.ref x)) (.ref C) := I.type
  have L3 : Looks (model prog w) s.heap (fillsNumberSlot (.ref C) nm') true := fills_K X hcd hm hs
  have L5 : Looks (model prog w) s.heap (isSubtype (.ref C) (.type "int")) false := looks_subIn X hsub
  have hne : (Value.type "int" == Value.ref C) = false := Bool.eq_false_iff.mpr fun q => by cases beq_iff_eq.mp q
  have hpy : numberSlotInPython (.type "int") nm' = pure false := rfl
  simp only [binaryOp, hi]
  refine wpAny_holding (wpAny_bind ?_)
  unfold binaryOp1
  refine wpAny_bind (L0.here (wpAny_bind (L1.here (wpAny_bind (wpAny_of_eq hfT ?_)))))
  simp only [hne, Bool.false_eq_true, if_false]
  refine wpAny_bind (L3.here ?_)
  simp only [Bool.and_self, if_true]
  refine wpAny_bind (L5.here ?_)
  simp only [Bool.false_eq_true, if_false, pure_bind, Bool.not_false, Bool.and_self, if_true, hpy]
  refine wpAny_bind (wpAny_tryMethod_declines (id := id) (typeIs_int s a t) slot ?_)
  refine GQ.call_here slot (typeIs_int s a t) entry args (dec _ _ _ ?_)
  refine ⟨rfl, ?_⟩
  refine wpAny_bind (wpAny_mono one (fun r s' hr' => ?_) fun _ _ e => e)
  obtain ⟨v, rfl, hq⟩ := hr'
  dsimp only
  exact wpAny_bind (wpAny_rule (wpAny_pure (wpAny_pure hq)))

/-- abs(x) by the own method -/
theorem abs_own {Q : Value → Shared → Prop} (F : Fr h₀ L s.heap m) (X₀ : K.In h₀) (I : InstAt s.heap x ox C od) (hs : findIn K (.ref C) "__abs__" = some (some (.ref f))) (hf : isFn K (.ref f) = true)
    (h : wpAny (model prog w) A.in1 (call (.ref f) [.ref x]) Q E s) : wpAny (model prog w) A (call (.builtin "abs") [.ref x]) Q E s := by
  refine call_function_entry kind_abs plain_abs entry_abs (args_abs _) ?_
  unfold Builtin.«abs»
  refine wpAny_bind (m := oneArg "abs" _) (wpAny_pure ?_)
  refine wpAny_bind (special_fn (X₀.keeps F.keep) I hs (beq_iff_eq.mp hf) ?_)
  exact wpAny_mono h (fun v s' q => wpAny_pure ⟨v, rfl, q⟩) fun _ _ z => z
end
end PLow

namespace L2
open PySem PySem.Spec PyProof.Rows
section
variable {X : Cx} {CX : CXT} {k : Nat} {C f g : Addr} {fd : FuncData} {ps : List Str} {sp : Sp} {E : XK} {op : Operator}
theorem cmpBack_of {pins : List (Addr × Obj)} {σ : St} {Q : VK} {u : Value} {s' : Shared} (h : EP X pins σ Q u s') : PySem.W.CmpBack (EP X pins σ Q) u s' := by
  obtain ⟨v, H', I, r, q⟩ := id h
  cases v with
  | non => cases (show u = Value.none from r); exact h
  | bl b => cases (show u = Value.bool b from r); exact h
  | int i => obtain ⟨t, e⟩ := (show ∃ t, u = Value.int i t from r); cases e; exact h
  | str x => obtain ⟨t, e⟩ := (show ∃ t, u = Value.str x t from r); cases e; exact h
  | byt b => obtain ⟨t, e⟩ := (show ∃ t, u = Value.bytes b t from r); cases e; exact h
  | flt b => obtain ⟨t, e⟩ := (show ∃ t, u = Value.float b t from r); cases e; exact h
  | ref a => cases (show u = Value.ref a from r); exact h
  | ty n => cases (show u = Value.type n from r); exact h
/-- what of the class an own operator asks: f the method, g the reflected one -/
structure OwnOp (K : PySem.W.Frag) (C f g : Addr) (op : Operator) : Prop where
  first : PySem.W.selfFirst K C = true
  at_ : PySem.W.findIn K (.ref C) (PySem.dunder op.info.2) = some (some (.ref f))
  fn : PySem.W.isFn K (.ref f) = true
  ar : PySem.W.findIn K (.ref C) (dunderR op.info.2) = some (some (.ref g))
  fr : PySem.W.isFn K (.ref g) = true
  sub : PySem.W.subIn K (.type "int") (.ref C) = some false
  sub' : PySem.W.subIn K (.ref C) (.type "int") = some false
/-- x op y, x an instance with the own method, y an instance of the same class -/
theorem op_ownR (O : OwnOp X.K C f g op) (F : FnOk X.prog X.w X.K X.mg X.base CX k f fd ps sp) (hr : Room k X.A) (hb : Binds X.K fd ps []) (hx : Passes CX X E) :
    OpR X (binaryOp op) (fun x y H Q => ∃ a b dx dy fs gs, x = .ref a ∧ y = .ref b ∧ H a = some (.ins C dx fs) ∧ H b = some (.ins C dy gs) ∧ sp [.ref a, .ref b] H Q E) := by
  intro pins s σ H x y v u Q I rx ry h
  obtain ⟨a, b, dx, dy, fs, gs, rfl, rfl, ha, hb', q⟩ := h
  cases rx
  cases ry
  obtain ⟨mA, J, _⟩ := ins_get I.hok ha
  obtain ⟨mB, J', _⟩ := ins_get I.hok hb'
  obtain ⟨od, J, _⟩ := J.look
  obtain ⟨od', J', _⟩ := J'.look
  obtain ⟨m, hF⟩ := I.fr
  refine PySem.W.binop_K hF I.ok.mod.kin J J'.type O.first O.at_ O.fn ?_
  exact wpAny_mono (run_fn (us := [.ref a, .ref b]) (vs := [.ref a, .ref b]) F hr hb .nil hx I (.cons rfl (.cons rfl .nil)) q) (fun _ _ z => cmpBack_of z) fun _ _ z => z
/-- x op i, i an int -/
theorem op_ownI {fo ro : Option Value} (O : OwnOp X.K C f g op) (h1 : PySem.W.findIn X.K (.type "int") (PySem.dunder op.info.2) = some fo) (h2 : PySem.W.findIn X.K (.type "int") (dunderR op.info.2) = some ro)
    (F : FnOk X.prog X.w X.K X.mg X.base CX k f fd ps sp) (hr : Room k X.A) (hb : Binds X.K fd ps []) (hx : Passes CX X E) :
    OpR X (binaryOp op) (fun x y H Q => ∃ a i dx fs, x = .ref a ∧ y = .int i ∧ H a = some (.ins C dx fs) ∧ sp [.ref a, .int i] H Q E) := by
  intro pins s σ H x y v u Q I rx ry h
  obtain ⟨a, i, dx, fs, rfl, rfl, ha, q⟩ := h
  cases rx
  obtain ⟨t, rfl⟩ := ry
  obtain ⟨mA, J, _⟩ := ins_get I.hok ha
  obtain ⟨od, J, _⟩ := J.look
  obtain ⟨m, hF⟩ := I.fr
  refine PySem.W.ksp_binT hF I.ok.mod.kin J rfl O.first O.at_ O.fn O.ar (.inr ⟨_, rfl⟩) h1 h2 O.sub ?_
  exact wpAny_mono (run_fn (us := [.ref a, .int i t]) (vs := [.ref a, .int i]) F hr hb .nil hx I (.cons rfl (.cons ⟨t, rfl⟩ .nil)) q) (fun _ _ z => cmpBack_of z) fun _ _ z => z
/-- i op x, i an int: the reflected method, F of g -/
theorem op_ownL {id : String} {B : Builtin} (O : OwnOp X.K C f g op) (hfT : fillsNumberSlot (.type "int") op.info.2 = pure true)
    (slot : PySem.Slot "int" (PySem.dunder op.info.2) id) (entry : entryFor table id = some B) (args : ∀ i t x, argsOk id ⟨[Value.int i t, .ref x], []⟩)
    (dec : ∀ (i : Int) (t : Tok) (x : Addr) (ox : Obj) (s : Shared), s.heap.get? x = some ox → (∀ v, ox.data ≠ .prim v) → ∀ (A : Around) (E : Value → Shared → Prop) (R : PySem.Fin → Shared → Prop), R (.done (.ret .notImplemented)) s →
      wpAny (model X.prog X.w) A (B ⟨[Value.int i t, .ref x], []⟩) R E s)
    (F : FnOk X.prog X.w X.K X.mg X.base CX k g fd ps sp) (hr : Room k X.A) (hb : Binds X.K fd ps []) (hx : Passes CX X E) :
    OpR X (binaryOp op) (fun x y H Q => ∃ a i dx fs, x = .int i ∧ y = .ref a ∧ H a = some (.ins C dx fs) ∧ sp [.ref a, .int i] H Q E) := by
  intro pins s σ H x y v u Q I rx ry h
  obtain ⟨a, i, dx, fs, rfl, rfl, ha, q⟩ := h
  obtain ⟨t, rfl⟩ := rx
  cases ry
  obtain ⟨mA, J, _⟩ := ins_get I.hok ha
  have ho := J.obj
  obtain ⟨od, J, _⟩ := J.look
  obtain ⟨m, hF⟩ := I.fr
  refine PLow.rbin hF I.ok.mod.kin J O.first O.at_ O.ar O.fr hfT O.sub' slot entry (args _ _ _) (dec i t a _ s ho (fun v z => by simp [PySem.W.instObj] at z)) ?_
  exact wpAny_mono (run_fn (us := [.ref a, .int i t]) (vs := [.ref a, .int i]) F hr hb .nil hx I (.cons rfl (.cons ⟨t, rfl⟩ .nil)) q) (fun _ _ z => cmpBack_of z) fun _ _ z => z
/-- -x -/
theorem un_own (hs : PySem.W.findIn X.K (.ref C) "__neg__" = some (some (.ref f))) (hf : PySem.W.isFn X.K (.ref f) = true) (F : FnOk X.prog X.w X.K X.mg X.base CX k f fd ps sp) (hr : Room k X.A) (hb : Binds X.K fd ps []) (hx : Passes CX X E) :
    UnR X (unaryOp .USub) (fun x H Q => ∃ a dx fs, x = .ref a ∧ H a = some (.ins C dx fs) ∧ sp [.ref a] H Q E) := by
  intro pins s σ H x v Q I rx h
  obtain ⟨a, dx, fs, rfl, ha, q⟩ := h
  cases rx
  obtain ⟨mA, J, _⟩ := ins_get I.hok ha
  obtain ⟨od, J, _⟩ := J.look
  obtain ⟨m, hF⟩ := I.fr
  refine PySem.W.ksp_neg hF I.ok.mod.kin J hs hf ?_
  exact run_fn (us := [.ref a]) (vs := [.ref a]) F hr hb .nil hx I (.cons rfl .nil) q
/-- abs(x) -/
theorem call_absOwn (hs : PySem.W.findIn X.K (.ref C) "__abs__" = some (some (.ref f))) (hf : PySem.W.isFn X.K (.ref f) = true) (F : FnOk X.prog X.w X.K X.mg X.base CX k f fd ps sp) (hr : Room (k + 1) X.A) (hb : Binds X.K fd ps []) (hx : Passes CX X E) :
    CallR X (.builtin "abs") (fun xs H Q => ∃ a dx fs, xs = [.ref a] ∧ H a = some (.ins C dx fs) ∧ sp [.ref a] H Q E) := by
  intro pins s σ H xs us Q I r h
  obtain ⟨a, dx, fs, rfl, ha, q⟩ := h
  cases r with
  | cons r1 r2 =>
    cases r2
    cases r1
    obtain ⟨mA, J, _⟩ := ins_get I.hok ha
    obtain ⟨od, J, _⟩ := J.look
    obtain ⟨m, hF⟩ := I.fr
    refine PLow.abs_own hF I.ok.mod.kin J hs hf ?_
    have hl := F.len _ _ _ _ q
    have r2 : Vals [V.ref a] [Value.ref a] := .cons rfl .nil
    refine wpAny_call (codeAny_mono (F.run X.A.in1 X.stack s H ⟨[.ref a], []⟩ [.ref a] [.ref a] Q E hr.in1 I.env0.in1 (by
      have := hb s [.ref a] I.kIn (by simpa using hl)
      simpa using this) r2 q) fun r s' hq => ?_)
    cases r with
    | error e => exact hx pins σ H s e s' I hq
    | ok fl =>
      cases fl with
      | ret w => exact I.after hq
      | next => exact False.elim hq
      | brk => exact False.elim hq
      | cont => exact False.elim hq
/-- // by any divisor but 0 below 2 ^ 9000 in size -/
def CDivS (_ j : Int) : Prop := j ≠ 0 ∧ j.natAbs.log2 < 9000
theorem op_fdivS : OpR X (binaryOp .FloorDiv) (rI CDivS fun i j => .int (i.fdiv j)) := opI fun i j _ _ _ _ _ hc q =>
  floordiv_int hc.1 q (.inl (PyProof.noPylong_of_log2 hc.2))
end
end L2

set_option maxHeartbeats 2000000
namespace PLow
open PySem PySem.W PySem.Calls PyProof.Rows
section
variable {prog : Program} {w : World} {A : Around} {E : Value → Shared → Prop} {s : Shared} {K : Frag} {x C L f : Addr} {h₀ : Heap} {m : Str → Option Value} {ox : Obj} {od : Option Obj}
/-- bool(x) by the own method -/
theorem bool_own {Q : Value → Shared → Prop} (F : Fr h₀ L s.heap m) (X₀ : K.In h₀) (I : InstAt s.heap x ox C od) (hs : findIn K (.ref C) "__bool__" = some (some (.ref f))) (hf : isFn K (.ref f) = true)
    (h : wpAny (model prog w) A.in1.in1 (call (.ref f) [.ref x]) (PySem.W.BoolBack fun b s' => Q (.bool b) s') E s) : wpAny (model prog w) A (call (.type "bool") [.ref x]) Q E s := by
  refine callType_newIn (S := fun A R s' => s' = s ∧ wpAny (model prog w) A.in1 (call (.ref f) [.ref x]) (PySem.W.BoolBack fun b s' => R (.ok (.ret (.bool b))) s') (fun e s' => R (.error e) s') s) PySem.F.called_bool PySem.F.newNe_bool (PySem.F.typeCall_bool_1 _) (PySem.F.newCall_bool_1 _)
    (fun obj => PySem.F.args_object_init_2 obj _) PySem.F.entry_bool_new ?_ ⟨rfl, ?_⟩
  · rintro A R s' ⟨rfl, hc⟩
    have tr : ∀ {Q' : Bool → Shared → Prop}, wpAny (model prog w) A.in1 (call (.ref f) [.ref x]) (PySem.W.BoolBack Q') (fun e s' => R (.error e) s') s' → wpAny (model prog w) A.in1 (truthy (.ref x)) Q' (fun e s' => R (.error e) s') s' := fun z => truthy_K F X₀ I hs hf z
    have f1 := PySem.F.conv_sub_bool
    refine wpAny_bind (m := isType _) (wpAny_pure ?_)
    dsimp only
    simp only [Bool.not_true, Bool.false_eq_true, if_false]
    refine wpAny_bind (wpAny_of_eq f1 ?_)
    simp only [Bool.not_true, Bool.false_eq_true, if_false]
    refine wpAny_bind (m := someArgs _ _ _ _) (wpAny_pure ?_)
    dsimp only
    refine wpAny_bind (tr (wpAny_mono hc (fun v s' hv => ?_) fun _ _ z => z))
    cases v <;> first | exact hv.elim | skip
    exact wpAny_pure hv
  · refine wpAny_mono h (fun v s' hv => ?_) fun _ _ z => z
    cases v <;> first | exact hv.elim | skip
    exact ⟨rfl, hv⟩
end
end PLow
namespace L2
open PySem PySem.Spec PyProof.Rows
section
variable {X : Cx} {CX : CXT} {k : Nat} {C f : Addr} {fd : FuncData} {ps : List Str} {sp : Sp} {E : XK} {op : CmpOp}
/-- an own comparison -/
structure OwnC (K : PySem.W.Frag) (C f : Addr) (op : CmpOp) : Prop where
  at_ : PySem.W.findIn K (.ref C) (cmpInfo op).2.1 = some (some (.ref f))
  fn : PySem.W.isFn K (.ref f) = true
  sub : PySem.W.subIn K (.type "int") (.ref C) = some false
theorem rich_own (O : OwnC X.K C f op) (F : FnOk X.prog X.w X.K X.mg X.base CX k f fd ps sp) (hr : Room k X.A) (hb : Binds X.K fd ps []) (hx : Passes CX X E) {pins : List (Addr × Obj)} {s : Shared} {σ : St} {H : Hp} {y : V} {u : Value} {Q : VK} {a dx : Addr} {fs : List (Str × V)}
    (I : Inv X pins σ H s) (ha : H a = some (.ins C dx fs)) (ry : RelV y u) (hy : (∃ i, y = .int i) ∨ ∃ b dy gs, y = .ref b ∧ H b = some (.ins C dy gs)) (q : sp [.ref a, y] H Q E) :
    wpAny (model X.prog X.w) X.A (richCompare op (.ref a) u) (EP X pins σ Q) X.xe s := by
  obtain ⟨mA, J, _⟩ := ins_get I.hok ha
  obtain ⟨od, J, _⟩ := J.look
  obtain ⟨m, hF⟩ := I.fr
  have fin : wpAny (model X.prog X.w) X.A (call (.ref f) [.ref a, u]) (PySem.W.CmpBack (EP X pins σ Q)) X.xe s :=
    wpAny_mono (run_fn (us := [.ref a, u]) (vs := [.ref a, y]) F hr hb .nil hx I (.cons rfl (.cons ry .nil)) q) (fun _ _ z => cmpBack_of z) fun _ _ z => z
  rcases hy with ⟨i, rfl⟩ | ⟨b, dy, gs, rfl, hb'⟩
  · obtain ⟨t, rfl⟩ := ry
    refine PySem.W.cmp_K (op := op) (tb := .type "int") hr.units0 hF I.ok.mod.kin J (PySem.W.Looks.of_pure rfl) ?_ O.at_ O.fn fin
    unfold PySem.W.notFirst
    rw [O.sub]
    simp
  · cases ry
    obtain ⟨mB, J', _⟩ := ins_get I.hok hb'
    obtain ⟨od', J', _⟩ := J'.look
    exact PySem.W.cmp_K (op := op) (tb := .ref C) hr.units0 hF I.ok.mod.kin J J'.type (by simp [PySem.W.notFirst]) O.at_ O.fn fin
def rOwnC (C : Addr) (sp : Sp) (E : XK) : R2 := fun x y H Q => ∃ a dx fs, x = .ref a ∧ H a = some (.ins C dx fs) ∧ ((∃ i, y = .int i) ∨ ∃ b dy gs, y = .ref b ∧ H b = some (.ins C dy gs)) ∧ sp [x, y] H Q E
theorem op_ownC (O : OwnC X.K C f op) (F : FnOk X.prog X.w X.K X.mg X.base CX k f fd ps sp) (hr : Room k X.A) (hb : Binds X.K fd ps []) (hx : Passes CX X E) (hc : ∀ v u, compareOp op v u = richCompare op v u := by intro _ _; rfl) : OpR X (compareOp op) (rOwnC C sp E) := by
  intro pins s σ H x y v u Q I rx ry h
  obtain ⟨a, dx, fs, rfl, ha, hy, q⟩ := h
  cases rx
  rw [hc]
  exact rich_own O F hr hb hx I ha ry hy q
/-- a call of a built-in class whose own method answers, two levels in -/
theorem run_in2 {pins : List (Addr × Obj)} {σ : St} {H : Hp} {s : Shared} {Q : VK} {a : Addr} (F : FnOk X.prog X.w X.K X.mg X.base CX k f fd ps sp) (hr : Room (k + 2) X.A) (hb : Binds X.K fd ps []) (hx : Passes CX X E) (I : Inv X pins σ H s) (q : sp [.ref a] H Q E) :
    wpAny (model X.prog X.w) X.A.in1.in1 (call (.ref f) [.ref a]) (EP X pins σ Q) X.xe s := by
  have hl := F.len _ _ _ _ q
  have r2 : Vals [V.ref a] [Value.ref a] := .cons rfl .nil
  refine wpAny_call (codeAny_mono (F.run X.A.in1.in1 X.stack s H ⟨[.ref a], []⟩ [.ref a] [.ref a] Q E hr.in1.in1 I.env0.in1.in1 (by
    have := hb s [.ref a] I.kIn (by simpa using hl)
    simpa using this) r2 q) fun r s' hq => ?_)
  cases r with
  | error e => exact hx pins σ H s e s' I hq
  | ok fl =>
    cases fl with
    | ret w => exact I.after hq
    | next => exact False.elim hq
    | brk => exact False.elim hq
    | cont => exact False.elim hq
/-- bool(x) -/
theorem call_boolOwn (hs : PySem.W.findIn X.K (.ref C) "__bool__" = some (some (.ref f))) (hf : PySem.W.isFn X.K (.ref f) = true) (F : FnOk X.prog X.w X.K X.mg X.base CX k f fd ps sp) (hr : Room (k + 2) X.A) (hb : Binds X.K fd ps []) (hx : Passes CX X E) :
    CallR X (.type "bool") (fun xs H Q => ∃ a dx fs, xs = [.ref a] ∧ H a = some (.ins C dx fs) ∧ sp [.ref a] H (fun v H' => ∃ b, v = .bl b ∧ Q (.bl b) H') E) := by
  intro pins s σ H xs us Q I r h
  obtain ⟨a, dx, fs, rfl, ha, q⟩ := h
  obtain ⟨u, rfl, ru⟩ := vals1 r
  cases ru
  obtain ⟨mA, J, _⟩ := ins_get I.hok ha
  obtain ⟨od, J, _⟩ := J.look
  obtain ⟨m, hF⟩ := I.fr
  refine PLow.bool_own hF I.ok.mod.kin J hs hf (wpAny_mono (run_in2 F hr hb hx I q) (fun u s' z => ?_) fun _ _ z => z)
  obtain ⟨v, H', I', rv, b, rfl, q'⟩ := z
  cases rv
  exact ⟨.bl b, H', I', rfl, q'⟩
/-- str(x) -/
theorem call_strOwn (hs : PySem.W.findIn X.K (.ref C) "__str__" = some (some (.ref f))) (hf : PySem.W.isFn X.K (.ref f) = true) (F : FnOk X.prog X.w X.K X.mg X.base CX k f fd ps sp) (hr : Room (k + 2) X.A) (hb : Binds X.K fd ps []) (hx : Passes CX X E) :
    CallR X (.type "str") (fun xs H Q => ∃ a dx fs, xs = [.ref a] ∧ H a = some (.ins C dx fs) ∧ sp [.ref a] H (fun v H' => ∃ b, v = .str b ∧ Q (.str b) H') E) := by
  intro pins s σ H xs us Q I r h
  obtain ⟨a, dx, fs, rfl, ha, q⟩ := h
  obtain ⟨u, rfl, ru⟩ := vals1 r
  cases ru
  obtain ⟨mA, J, _⟩ := ins_get I.hok ha
  obtain ⟨od, J, _⟩ := J.look
  have hu := hr.units
  refine PySem.W.kso_call (by show X.A.units + 1 + 1 < cLine; omega) I.kIn J hs hf (wpAny_mono (run_in2 F hr hb hx I q) (fun u s' z => ?_) fun _ _ z => z)
  obtain ⟨v, H', I', rv, b, rfl, q'⟩ := z
  obtain ⟨t, rfl⟩ := rv
  exact ⟨.str b, H', I', ⟨t, rfl⟩, q'⟩
end
end L2

set_option maxHeartbeats 4000000
namespace L2
open PySem PySem.Spec PyProof.Rows
/-! ### static methods -/
theorem entry_sm : entryFor table "staticmethod.__get__" = some Builtin.«staticmethod.__get__» := entryFor_of_tree rfl
theorem args_sm (a b c : Value) : argsOk "staticmethod.__get__" { pos := [a, b, c] } := rfl
theorem slot_sm : Slot "staticmethod" (Str.ofString "__get__") "staticmethod.__get__" := by
  refine Slot.of (owner := "staticmethod") (n := "__get__") ?_ ?_ ?_ ?_ ?_ ?_
  · rw [typeLookup_type, builtinLookup_eq_fast]
    rfl
  · decide +kernel
  · decide +kernel
  · decide +kernel
  · left; decide +kernel
  · rw [isSubtype_type]
    rfl
theorem sm_get {prog : Program} {w : World} {A : Around} {s : Shared} {K : PySem.W.Frag} {p C : Addr} {R : Result → Shared → Prop} {f obj : Value} {rest : List Value} (h : K.In s.heap) (hr : PySem.W.recIn K p "staticmethod" = some (f :: rest)) (k : R (.ok (.ret f)) s) :
    codeAny (model prog w) A (.call (.builtin "staticmethod.__get__") { pos := [.ref p, obj, .ref C] }) R s := by
  obtain ⟨d, sl, e⟩ := PySem.W.rec_of h hr
  refine codeAny_call_builtin slot_sm.plain entry_sm (slot_sm.check _ _ _ _ _ _ _ _ ⟨_, e, rfl⟩ (args_sm _ _ _) ?_)
  show wpAny _ _ (Builtin.«staticmethod.__get__» { pos := [.ref p, obj, .ref C] }) _ _ s
  unfold Builtin.«staticmethod.__get__»
  rw [PySem.W.dga_cls]
  refine wpAny_bind (PySem.W.nd_pure ?_)
  refine wpAny_bind ?_
  unfold field
  refine wpAny_bind ?_
  unfold fieldsOf
  refine wpAny_bind (PySem.W.nd_load e ?_)
  refine PySem.W.nd_pure ?_
  refine wpAny_pure ?_
  have e0 : (f :: rest).toArray[0]? = some f := by simp
  rw [e0]
  refine wpAny_pure ?_
  unfold ret
  refine wpAny_pure ?_
  exact k
structure SMet (K : PySem.W.Frag) (C : Addr) (mc : Value) (m : Str) (p g : Addr) : Prop where
  at_ : PySem.W.findCls K (.ref C) mc m = some (.get (.builtin "staticmethod.__get__") (.ref p) .none (.ref C))
  rc : ∃ rest, PySem.W.recIn K p "staticmethod" = some (.ref g :: rest)
  hi : PySem.W.handedIn (.ref g) = true
theorem getsm_ok {X : Cx} {pins : List (Addr × Obj)} {σ : L2.St} {H : Hp} {s : Shared} {C p g : Addr} {mc : Value} {m : Str} {A : Around} {E : Value → Shared → Prop} {b : Bool} {Q : Value → Shared → Prop}
    (I : L2.Inv X pins σ H s) (r : ClX.CRead X.K C mc) (c : SMet X.K C mc m p g) (k : ∀ s', L2.Inv X pins σ H s' → Q (.ref g) s') : wpAny (model X.prog X.w) A (getAttr (.ref C) m b) Q E s := by
  obtain ⟨rest, hr⟩ := c.rc
  exact PySem.W.cls_bind I.kIn r.rd c.at_ (wpAny_call (sm_get I.kIn hr (PySem.W.handed_on c.hi (k _ (I.tok _)))))
theorem getmethsm_ok {X : Cx} {pins : List (Addr × Obj)} {σ : L2.St} {H : Hp} {s : Shared} {C p g : Addr} {mc : Value} {m : Str} {A : Around} {E : Value → Shared → Prop} {pl : Sem Bool} {Q : Value × List Value → Shared → Prop}
    (I : L2.Inv X pins σ H s) (r : ClX.CRead X.K C mc) (c : SMet X.K C mc m p g) (k : ∀ s', L2.Inv X pins σ H s' → Q (.ref g, []) s') : wpAny (model X.prog X.w) A (getMethod (.ref C) m pl) Q E s :=
  PySem.W.method_cls I.kIn r.ga (getsm_ok I r c k)
def tSMeth (C : Addr) (sp : Sp) (E : XK) (ta : TE) (t : TA) : TE := fun σ H Q => ta σ H fun x H1 => x = .ref C ∧ t σ H1 fun vs H2 => sp vs H2 Q E
theorem pe_smeth {X : Cx} {CX : CXT} {k : Nat} {C p g : Addr} {fd : FuncData} {ps : List Str} {mc : Value} {sp : Sp} {E : XK} {o e : PySem.Expr} {es : List PySem.Expr} {m : Str} {pos apos : Pos} {ta : TE} {t : TA} {pl : Sem Bool}
    (ho : PE X o ta) (r : ClX.CRead X.K C mc) (c : SMet X.K C mc m p g) (F : FnOk X.prog X.w X.K X.mg X.base CX k g fd ps sp) (hr : Room k X.A) (kp : PySem.W.keepIn X.K (.ref g) = true) (hb : Binds X.K fd ps []) (hx : Passes CX X E) (ha : PA X (e :: es) t)
    (hs : starEach (e :: es) X.env = (false, eval e X.env) :: starEach es X.env := by rfl) (hpl : ((backTo pos (starEach es X.env)).any fun x => x.fst) = false := by rfl)
    (he : eval ((o.Attribute m apos).Call (e :: es) [] pos) X.env = (do
      let ov ← eval o X.env
      standAt apos.atName
      let __x ← holding [ov] (getMethod ov m pl)
      match __x with
      | (f, first) => callWith pos f first (backTo pos (starEach (e :: es) X.env)) (backToKw pos (keywordEach [] X.env))) := by rfl) :
    PE X ((o.Attribute m apos).Call (e :: es) [] pos) (tSMeth C sp E ta t) := by
  refine ⟨fun pins s σ H Q I h => PySem.W.methodCall_KW (pl := pl) (thn (ho.run pins s σ H _ I h) fun v s1 q => ?_) he⟩
  obtain ⟨x, H1, I1, rx, rfl, q⟩ := q
  cases rx
  refine getmethsm_ok I1 r c fun s2 I2 => ?_
  refine PySem.W.callWith_K I2.ok.mod.kin kp (thn (ha.run pos pins s2 σ H1 _ I2 q) fun us s3 q3 => ?_) hs hpl
  obtain ⟨vs, H3, I3, rv, q3⟩ := q3
  exact ⟨I3.kIn, run_fn F hr hb .nil hx I3 rv (by simpa using q3)⟩
end L2

set_option maxHeartbeats 8000000
namespace PA
open PySem L2 RZ
open C8 (pss_cut tCut)
open TC (Lc LOk GoodL verds txt rowS)
open TS (rdW numS)
theorem boot_str' : bootBuiltins "str" = some (.type "str") := by decide +kernel
theorem pe_bmF {X : Cx} {K : PySem.W.Frag} (hK : X.K = K) {o e : PySem.Expr} {es : List PySem.Expr} {to : TE} {t : TA} {name : Str} {apos cpos : Pos} {T id : String} {r : V → List V → Hp → VK → Prop} (pa : PlainAttrs T) (sl : Slot T name id) (hty : typeOf (Value.builtin id) = pure (Value.type "method_descriptor")) (hm : MtR X id r) (ho : PE X o to) (ha : PA X (e :: es) t)
    (h1 : attributeBase o name X.env (eval o X.env) = eval o X.env := by rfl)
    (h2 : ((((backTo cpos (starEach (e :: es) X.env)).all fun x => !x.fst) && (backToKw cpos (keywordEach [] X.env)).all fun x => x.fst.isSome) && decide (((e :: es).length + ([] : List Keyword).length + if ([] : List Keyword).isEmpty = true then 0 else 1) < 30)) = true := by rfl)
    (h3 : (apos.endLine == cpos.line) = true := by rfl)
    (h4 : starEach (e :: es) X.env = (false, eval e X.env) :: starEach es X.env := by rfl)
    (h5 : ((backTo cpos (starEach es X.env)).any fun x => x.fst) = false := by rfl) : PE X ((o.Attribute name apos).Call (e :: es) [] cpos) (tBM K T r to t) := by
  subst hK
  exact pe_bm pa sl hty hm ho ha h1 h2 h3 h4 h5
theorem pi_listK {X : Cx} {K : PySem.W.Frag} (h : X.K = K) {tg l : PySem.Expr} {tl : TE} (hl : PE X l tl) : PI X tg l (iList K tl) := h ▸ pi_list hl
def tJoined (ts : List TE) : TE := fun σ H Q => tJs ts Str.empty σ H fun out H1 => Q (.str out) H1
theorem pe_joinedT {X : Cx} {v1 v2 : PySem.Expr} {rest : List PySem.Expr} {pos : Pos} {ts : List TE} (h : PJ X (v1 :: v2 :: rest) ts) : PE X (.JoinedStr (v1 :: v2 :: rest) pos) (tJoined ts) := pe_joined h
/-- the cells that a piece of a text is read as -/
def pieceV (p : Str) : List V := ((PySem.Txt.split p " ").take 2).map (fun w => ev (rdW w)) ++ ((PySem.Txt.split p " ").drop 2).map V.str
theorem cut_suf (xs : List V) (k : Nat) : cutV xs (some ((k : Nat) : Int)) none = xs.drop k := by
  unfold cutV
  rw [HT.sIx_none, HT.sIx_nat]
  rcases Nat.le_total k xs.length with h | h
  · rw [Nat.min_eq_left h, List.take_of_length_le (by rw [List.length_drop]; exact Nat.le_refl _)]
  · rw [Nat.min_eq_right h, Nat.sub_self, List.take_zero, List.drop_of_length_le h]
def spStr (C : Addr) : Sp := fun vs H Q _ => ∃ (p : Addr) (ls : List Lc), vs = [.ref p] ∧ RowsAt C H p (ls.map lv) ∧ GoodL ls ∧ ∀ H', Same H H' → Q (.str (txt ls)) H'
def spReadRow : Sp := fun vs H Q _ => ∃ p : Str, vs = [.str p] ∧ p.length ≤ 8000 ∧ ∀ q H', Same H H' → H q = none → H' q = some (.lst (pieceV p)) → Q (.ref q) H'
def spReadSt : Sp := fun vs H Q _ => ∃ w : Str, vs = [.str w] ∧ w.length ≤ 9000 ∧ Q (ev (rdW w)) H
section
variable {P : Program} {w : World} {K : PySem.W.Frag} {mg : Str → Option Value} {base : Heap} {C X PE_ Fo : Addr}
theorem num_log {n : Nat} (h : n < 48) : ((n : Int).natAbs.log2 < 1920) := by
  rw [Int.natAbs_natCast]
  exact Nat.lt_of_le_of_lt (Nat.log2_le_self n) (by omega)
theorem scStr : FnScope ["self", "same", "other", "verdict"] ["self"] (defScope sStr) := ⟨rfl, rfl, rfl, by decide +kernel, rfl, by decide +kernel, by decide +kernel⟩
theorem ok_str {f : Addr} {fd : FuncData} (F : Fun K "__str__" "Claim.__str__" sStr f fd) (T : Txt K mg) (TC : TxtC K mg C Fo) : FnOk P w K mg base CX0 2 f fd ["self"] (spStr C) := by
  refine F.ok scStr (fun vs H Q E h => ?_) (fun cdv A outer s H vs Q E hr h => ?_)
  · obtain ⟨p, _, rfl, _⟩ := h
    rfl
  · obtain ⟨p, ls, rfl, ⟨dx, R, refs, hp, hR, hE⟩, gd, kk⟩ := h
    refine ⟨_, pss_one (ps_ret (pe_join pe_str (pe_lc (own := [("same", 1), ("other", 2), ("verdict", 3)]) (g := gTup K 3 (gCons (gName 1) (gCons (gName 2) (gCons (gName 3) gNil)))) (tt := tYes) (by rfl) scStr.nd (pi_tup (pe_fld (pv 0) rfl)) (blkOk_by (N := ["self", "same", "other", "verdict"]) (sc := defScope sStr) (by decide +kernel))
          (fun _ _ _ _ _ => by exact pg_tup rfl (pgs_cons (pg_name (i := 1) scStr.nd rfl (Or.inl rfl)) (pgs_cons (pg_name (i := 2) scStr.nd rfl (Or.inl rfl)) (pgs_cons (pg_name (i := 3) scStr.nd rfl (Or.inl rfl)) pgs_nil)))) (fun _ _ _ _ _ => pts_nil)
          (fun _ _ _ _ _ => pe_joinedT (.cons (pe_fmt (pv 1)) (.cons pe_str (.cons (pe_fmt (pv 2)) (.cons pe_str (.cons (pe_fmt (pv 3)) .nil))))))))), ?_⟩
    have hne := gd.ne
    have h48 := gd.all48
    have hlr : refs.length = ls.length := by rw [hE.1, List.length_map]
    refine ⟨⟨_, rfl⟩, _, rfl, p, C, dx, _, _, rfl, hp, TC.cl, TC.nR, rsf_rows R, R, rfl, ⟨_, SqT.of hR⟩, fun Dd hD => ?_⟩
    refine lc_same (xs := refs) (walk_t (K := K) (a := R) (xs := refs)) (by rw [hlr]; exact Nat.le_trans gd.most (by decide)) hD (fun H' s' => SqT.of (s' _ _ hR)) ((ls.map rowS).map V.str) (by simp [hlr]) (fun i x y H' Φ Ψ hx hy sm k => ?_) fun H1 s1 hd1 => ?_
    · rw [List.getElem?_map, List.getElem?_map, Option.map_eq_some_iff] at hy
      obtain ⟨y1, hy, rfl⟩ := hy
      rw [Option.map_eq_some_iff] at hy
      obtain ⟨l, hl, rfl⟩ := hy
      obtain ⟨c, rfl, hc⟩ := hE.2 i x (lv l) hx (by rw [List.getElem?_map, hl]; rfl)
      have ok := h48 l (List.mem_of_getElem? hl)
      have w1 := (TS.num_ok ok.1).2.1
      have w2 := (TS.num_ok ok.2.1).2.1
      have w3 := (_root_.TC.verds_ok _ ok.2.2).2
      have hsp : (" " : Str).length = 1 := by decide +kernel
      have he : Str.empty.length = 0 := rfl
      have big : ∀ {n : Nat}, n ≤ 300 → n ≤ sizeLine := fun h => Nat.le_trans h (by decide)
      refine ⟨c, _, rfl, SqT.of (sm _ _ hc), rfl, _, _, rfl, _, _, rfl, _, _, rfl, rfl, rfl, ?_⟩
      dsimp only [tYes]
      rw [if_pos rfl]
      have e1 : (Str.empty ++ numS l.1).length ≤ 2 := by rw [Str.length_append]; omega
      have e2 : (Str.empty ++ numS l.1 ++ " ").length ≤ 3 := by rw [Str.length_append]; omega
      have e3 : (Str.empty ++ numS l.1 ++ " " ++ numS l.2.1).length ≤ 5 := by rw [Str.length_append]; omega
      have e4 : (Str.empty ++ numS l.1 ++ " " ++ numS l.2.1 ++ " ").length ≤ 6 := by rw [Str.length_append]; omega
      have e5 : (Str.empty ++ numS l.1 ++ " " ++ numS l.2.1 ++ " " ++ l.2.2).length ≤ 11 := by rw [Str.length_append]; omega
      refine ⟨_, rfl, .inr ⟨(l.1 : Int), rfl, num_log ok.1, _, rfl, big (Nat.le_trans e1 (by decide)), _, rfl, big (Nat.le_trans e2 (by decide)), _, rfl, .inr ⟨(l.2.1 : Int), rfl, num_log ok.2.1, _, rfl, big (Nat.le_trans e3 (by decide)), _, rfl, big (Nat.le_trans e4 (by decide)), _, rfl, .inl ⟨l.2.2, rfl, big (by omega), _, rfl, big (Nat.le_trans e5 (by decide)), ?_⟩⟩⟩⟩
      have e : Str.empty ++ numS l.1 ++ " " ++ numS l.2.1 ++ " " ++ l.2.2 = rowS l := by
        apply TS.cs_inj
        unfold rowS
        rw [TS.join_two, TS.join_two, Str.join.eq_2]
        have z : TS.cs Str.empty = [] := rfl
        simp only [TS.cs_app, z, List.nil_append, List.append_assoc]
      have k' := k H' fun _ _ e => e
      rw [← e] at k'
      exact k'
    · refine ⟨_, Dd, ls.map rowS, rfl, rfl, .inl (SqL.of hd1), ?_, ?_⟩
      · have q := _root_.TC.rows_sum h48
        have z : ("; " : Str).length = 2 := by decide +kernel
        have := gd.most
        rw [z, List.length_map]
        omega
      · rw [TS.join_eq]
        exact kk H1 s1
theorem scReadSt : FnScope ["word"] ["word"] (defScope sReadSt) := ⟨rfl, rfl, rfl, by decide +kernel, rfl, by decide +kernel, by decide +kernel⟩
theorem ok_readSt {f : Addr} {fd : FuncData} (F : Fun K "read_state" "read_state" sReadSt f fd) (T : Txt K mg) : FnOk P w K mg base CX0 1 f fd ["word"] spReadSt := by
  refine F.ok scReadSt (fun vs H Q E h => ?_) (fun cdv A outer s H vs Q E hr h => ?_)
  · obtain ⟨v, rfl, _⟩ := h
    rfl
  · obtain ⟨v, rfl, hl, k⟩ := h
    refine ⟨_, pss_cons (ps_if (PW.pt (pw_or (pt_cmpR op_gt (pe_callB call_len_str (by rfl) T.len_ PySem.boot_len (pa_cons (pv 0) pa_nil)) pe_int (nomark _))
        (pw_or (pt_not (pt_val (pe_bm0 PySem.F.plainAttrs_str PySem.F.slot_str_isascii PySem.F.type_str_isascii mt_isascii (pv 0)))) (pw_or1 (pt_not (pt_val (pe_bm0 PySem.F.plainAttrs_str PySem.F.slot_str_isdigit PySem.F.type_str_isdigit mt_isdigit (pv 0)))))))) (pss_one (ps_ret pe_non)) pss_nil)
      (pss_one (ps_ret (pe_callTy call_int_str (by rfl) T.int_ boot_int' (pa_cons (pv 0) pa_nil)))), ?_⟩
    refine ⟨_, rfl, v, rfl, Nat.le_trans hl (by decide), _, _, rfl, rfl, _, rfl, ifD_2 (fun h2 => iteT ?_) (fun h2 => ?_)⟩
    · rw [TS.rdW_none (fun z => by have := z.1; omega)] at k
      exact k
    have h2' : v.length ≤ 2 := by omega
    refine ⟨_, rfl, rfl, v, rfl, rfl, trivial, _, rfl, ?_⟩
    cases ha : PySem.Txt.isascii v with
    | false =>
      rw [TS.rdW_none (fun z => by rw [ha] at z; exact absurd z.2.1 (by decide))] at k
      exact iteT k
    | true =>
      refine iteF ⟨_, rfl, rfl, v, rfl, rfl, trivial, _, rfl, ?_⟩
      cases hd : PySem.Txt.isdigit v with
      | false =>
        rw [TS.rdW_none (fun z => by rw [hd] at z; exact absurd z.2.2 (by decide))] at k
        exact iteT k
      | true =>
        obtain ⟨n, e1, e2⟩ := TS.rdW_some h2' ha hd
        rw [e1] at k
        exact iteF ⟨_, rfl, v, (n : Int), rfl, e2, Nat.le_trans h2' (by decide), k⟩
theorem scReadRow : FnScope ["piece", "words", "word"] ["piece"] (defScope sReadRow) := ⟨rfl, rfl, rfl, by decide +kernel, rfl, by decide +kernel, by decide +kernel⟩
theorem ok_readRow {f g : Addr} {fd gd : FuncData} (F : Fun K "_read_row" "_read_row" sReadRow f fd) (T : Txt K mg) (D : Df K mg "read_state" sReadSt g gd ["word"]) : FnOk P w K mg base CX0 2 f fd ["piece"] spReadRow := by
  have G : FnOk P w K mg base CX0 1 g gd ["word"] spReadSt := ok_readSt D.F T
  refine F.ok scReadRow (fun vs H Q E h => ?_) (fun cdv A outer s H vs Q E hr h => ?_)
  · obtain ⟨p, rfl, _⟩ := h
    rfl
  · obtain ⟨p, rfl, hl, kk⟩ := h
    refine ⟨_, pss_cons (ps_set (i := 1) scReadRow.nd rfl (Or.inl rfl) (pe_bm PySem.F.plainAttrs_str PySem.F.slot_str_split PySem.F.type_str_split mt_split (pv 0) (pa_cons pe_str pa_nil)))
      (pss_one (ps_ret (pe_op op_cat (pe_lc (own := [("word", 2)]) (g := gName 2) (tt := tYes) (by rfl) scReadRow.nd (pi_list (pe_slice sl_list (pv 1) po_none (po_some pe_int))) (blkOk_by (N := ["piece", "words", "word"]) (sc := defScope sReadRow) (by decide +kernel))
          (fun _ _ _ _ _ => pg_name (i := 2) scReadRow.nd rfl (Or.inl rfl)) (fun _ _ _ _ _ => pts_nil)
          (fun _ _ _ _ _ => pe_call G hr rfl D.M D.F.kp D.B .nil pass0 (pa_cons (pv 2) pa_nil))) (pe_slice sl_list (pv 1) (po_some pe_int) po_none)))), ?_⟩
    have hws := TS.split_len p " " (by decide +kernel)
    have hpl : ∀ w ∈ PySem.Txt.split p " ", w.length ≤ 9000 := fun w hw => Nat.le_trans (TS.part_len hw) (by omega)
    have big : ∀ {n : Nat}, n ≤ 20000 → n ≤ sizeLine := fun h => Nat.le_trans h (by decide)
    refine ⟨_, rfl, rfl, _, _, rfl, rfl, by decide +kernel, Nat.le_trans (Nat.add_le_add_right hl 2) (by decide), fun u hu => ?_⟩
    unfold pieceV at kk
    generalize PySem.Txt.split p " " = ws at hws hpl kk ⊢
    have su := new_ (o := .lst (ws.map V.str)) hu
    have huu : (upd H u (.lst (ws.map V.str))) u = some (.lst (ws.map V.str)) := upd_same
    generalize (upd H u (.lst (ws.map V.str))) = H1 at su huu ⊢
    refine ⟨_, rfl, 2, rfl, u, _, rfl, SqL.of huu, fun q hq => ⟨q, rfl, ⟨_, SqL.of upd_same⟩, fun Dd hD => ?_⟩⟩
    have ec : cutV (ws.map V.str) none (some (2 : Int)) = (ws.take 2).map V.str := by
      rw [show (some (2 : Int)) = some ((2 : Nat) : Int) from rfl, cut_to, List.map_take]
    rw [ec] at hD ⊢
    have sq := new_ (o := .lst ((ws.take 2).map V.str)) hq
    have hqq : (upd H1 q (.lst ((ws.take 2).map V.str))) q = some (.lst ((ws.take 2).map V.str)) := upd_same
    generalize (upd H1 q (.lst ((ws.take 2).map V.str))) = H2 at sq hqq hD ⊢
    refine lc_same (xs := (ws.take 2).map V.str) (walk_l (K := K) (a := q) (xs := (ws.take 2).map V.str)) (by rw [List.length_map, List.length_take]; exact big (by omega)) hD (fun H' s' => SqL.of (s' _ _ hqq)) ((ws.take 2).map fun w => ev (rdW w)) (by simp) (fun i x y H' Φ Ψ hx hy sm k => ?_) fun H3 s3 hd3 => ?_
    · rw [List.getElem?_map, Option.map_eq_some_iff] at hx
      obtain ⟨wd, hwd, rfl⟩ := hx
      rw [List.getElem?_map, hwd] at hy
      cases hy
      refine ⟨rfl, ?_⟩
      dsimp only [tYes]
      rw [if_pos rfl]
      exact ⟨_, rfl, wd, rfl, hpl wd (List.mem_of_mem_take (List.mem_of_getElem? hwd)), k H' fun _ _ e => e⟩
    have hu3 := s3 _ _ (sq _ _ huu)
    refine ⟨_, rfl, 2, rfl, u, _, rfl, SqL.of hu3, fun q2 hq2 => ?_⟩
    have ed : cutV (ws.map V.str) (some (2 : Int)) none = (ws.drop 2).map V.str := by
      rw [show (some (2 : Int)) = some ((2 : Nat) : Int) from rfl, cut_suf, List.map_drop]
    rw [ed]
    have s2 := new_ (o := .lst ((ws.drop 2).map V.str)) hq2
    refine ⟨_, _, _, _, rfl, rfl, s2 _ _ hd3, upd_same, by rw [List.length_map, List.length_map, List.length_take, List.length_drop]; exact big (by omega), fun q3 hq3 => ?_⟩
    have sAll := (((su.trans sq).trans s3).trans s2)
    exact kk q3 _ (sAll.trans (new_ hq3)) (sAll.none hq3) upd_same
/-- a Claim is made, or refused -/
theorem mk_rows {H : Hp} {Q : VK} {E : XK} {L : Addr} {refs : List V} {rows : List (List V)} (hL : H L = some (.lst refs) ∨ H L = some (.tup refs)) (hE : Ea H TLc refs rows) (hl : rows.length ≤ 9000) (hc : ∀ r ∈ rows, ∀ x ∈ r, Cell H x) {x dx : Addr} (nx : H x = none) (ndx : H dx = none) (nex : dx ≠ x)
    (kg : tabOk rows = true → ∀ H', Same H H' → RowsAt C H' x rows → Q .non H') (kb : tabOk rows = false → ∀ H', Same H H' → E (.ref X) none H') : spInit C X [V.ref x, V.ref L] (upd (upd H dx (.own x)) x (.ins C dx [])) Q E := by
  have s1 : Same H (upd (upd H dx (.own x)) x (.ins C dx [])) := fun c o e => by
    rw [upd_ne (ne_of_none e nx), upd_ne (ne_of_none e ndx)]
    exact e
  refine ⟨x, dx, L, refs, rows, rfl, upd_same, hL.imp (fun q => s1 _ _ q) (fun q => s1 _ _ q), hE.imp fun c r q => q.imp (fun q => s1 _ _ q) (fun q => s1 _ _ q), hl, fun r hr v hv => (hc r hr v hv).kin fun c xs e => s1 _ _ e, fun ok H' r kp => kg ok H' (fun c o e => kp c o (s1 _ _ e) (ne_of_none e nx)) r, fun bad H' kp => kb bad H' fun c o e => kp c o (s1 _ _ e) (ne_of_none e nx)⟩
end
end PA

set_option maxHeartbeats 8000000
namespace PA
open PySem L2 RZ
open C8 (pss_cut tCut)
open TC (Lc LOk GoodL verds txt rowS)
open TS (rdW numS)
theorem lv_inj {l l' : Lc} (h : lv l = lv l') : l = l' := by
  unfold lv at h
  simp only [List.cons.injEq, and_true, V.int.injEq, V.str.injEq] at h
  exact Prod.ext (Int.ofNat_inj.mp h.1) (Prod.ext (Int.ofNat_inj.mp h.2.1) h.2.2)
theorem piece_row {l : Lc} (h : LOk 48 l) : pieceV (rowS l) = lv l := by
  unfold pieceV
  rw [_root_.TC.split_row h]
  show [ev (rdW (numS l.1)), ev (rdW (numS l.2.1)), V.str l.2.2] = _
  rw [_root_.TC.rd_num h.1, _root_.TC.rd_num h.2.1]
  rfl
theorem pieces_txt {ls : List Lc} (g : GoodL ls) : (PySem.Txt.split (txt ls) "; ").map pieceV = ls.map lv := by
  rw [_root_.TC.split_txt g.ne g.all48, List.map_map]
  exact List.map_congr_left fun l hl => piece_row (g.all48 l hl)
theorem below_back {n : Nat} {v : V} (h : below n v = true) : ∃ m : Nat, v = .int (m : Int) ∧ m < n := by
  cases v with
  | int i =>
    have h : (decide ((0 : Int) ≤ i) && decide (i < (n : Int))) = true := h
    rw [Bool.and_eq_true, decide_eq_true_eq, decide_eq_true_eq] at h
    exact ⟨i.toNat, by rw [Int.toNat_of_nonneg h.1], by omega⟩
  | _ => cases h
theorem row_back {n : Nat} {r : List V} (h : rowOk n r = true) : ∃ l, r = lv l ∧ LOk n l := by
  match r, h with
  | [a, b, v], h =>
    have h : (below n a && (below n b && vOk v)) = true := h
    rw [Bool.and_eq_true, Bool.and_eq_true] at h
    obtain ⟨i, rfl, hi⟩ := below_back h.1
    obtain ⟨j, rfl, hj⟩ := below_back h.2.1
    cases v with
    | str s => exact ⟨(i, j, s), rfl, hi, hj, of_decide_eq_true h.2.2⟩
    | _ => cases h.2.2
theorem tab_back {rows : List (List V)} (h : tabOk rows = true) : ∃ ls, rows = ls.map lv ∧ GoodL ls := by
  have one : ∀ r ∈ rows, ∃ l, r = lv l := fun r hr => by
    have hh := h
    unfold tabOk at hh
    rw [Bool.and_eq_true, List.all_eq_true] at hh
    obtain ⟨l, e, _⟩ := row_back (hh.2 r hr)
    exact ⟨l, e⟩
  have all : ∀ rows : List (List V), (∀ r ∈ rows, ∃ l, r = lv l) → ∃ ls : List Lc, rows = ls.map lv := by
    intro rows
    induction rows with
    | nil => exact fun _ => ⟨[], rfl⟩
    | cons r rs ih =>
      intro hh
      obtain ⟨l, rfl⟩ := hh r (by simp)
      obtain ⟨ls, rfl⟩ := ih fun r hr => hh r (List.mem_cons_of_mem _ hr)
      exact ⟨l :: ls, rfl⟩
  obtain ⟨ls, rfl⟩ := all rows one
  exact ⟨ls, rfl, tab_lv.mp h⟩
/-- the text of a row set -/
def IsTxt (t : Str) : Prop := ∃ ls, GoodL ls ∧ t = txt ls
def spRead (C X : Addr) : Sp := fun vs H Q E => ∃ t : Str, vs = [.str t] ∧ t.length ≤ 8000 ∧ (∀ ls, GoodL ls → t = txt ls → ∀ p H', Same H H' → H p = none → RowsAt C H' p (ls.map lv) → Q (.ref p) H') ∧ (¬ IsTxt t → ∀ H', Same H H' → E (.ref X) none H')
/-- what makes and writes Claims -/
structure LibR (K : PySem.W.Frag) (mg : Str → Option Value) (C X PE_ Fo fI g1 g2 g3 g4 fS s1 r1 : Addr) (dI gd1 gd2 gd3 gd4 dS sd1 rd1 : FuncData) : Prop where
  T : Txt K mg
  TC : TxtC K mg C Fo
  TX : TxtX K mg X PE_
  I : Fun K "__init__" "Claim.__init__" sInit fI dI
  M : Mk K C fI
  bI : Binds K dI ["self", "rows"] []
  D1 : Df K mg "is_integer" sIsInt g1 gd1 ["value"]
  D2 : Df K mg "is_below" sBelow g2 gd2 ["value", "count"]
  D3 : Df K mg "_is_row" sIsRow g3 gd3 ["row", "count"]
  D4 : Df K mg "_check_rows" sCheck g4 gd4 ["rows"]
  FS : Fun K "__str__" "Claim.__str__" sStr fS dS
  bS : Binds K dS ["self"] []
  mS : Meth K C "__str__" fS
  R1 : Df K mg "read_state" sReadSt r1 rd1 ["word"]
  R2 : Df K mg "_read_row" sReadRow s1 sd1 ["piece"]
section
variable {P : Program} {w : World} {K : PySem.W.Frag} {mg : Str → Option Value} {base : Heap} {C X PE_ Fo fI g1 g2 g3 g4 fS s1 r1 : Addr} {dI gd1 gd2 gd3 gd4 dS sd1 rd1 : FuncData}
abbrev NRead : List Str := ["text", "claim", "piece"]
theorem scRead : FnScope NRead ["text"] (defScope sRead) := ⟨rfl, rfl, rfl, by decide +kernel, rfl, by decide +kernel, by decide +kernel⟩
theorem ok_read {f : Addr} {fd : FuncData} (F : Fun K "read" "Claim.read" sRead f fd) (L : LibR K mg C X PE_ Fo fI g1 g2 g3 g4 fS s1 r1 dI gd1 gd2 gd3 gd4 dS sd1 rd1) : FnOk P w K mg base (L2.CX P w) 7 f fd ["text"] (spRead C X) := by
  have T := L.T
  have TX := L.TX
  have GI : FnOk P w K mg base (L2.CX P w) 5 fI dI ["self", "rows"] (spInit C X) := ok_init L.I T L.TC TX L.D1 L.D2 L.D3 L.D4
  have GS : FnOk P w K mg base CX0 2 fS dS ["self"] (spStr C) := ok_str L.FS T L.TC
  have GRr : FnOk P w K mg base CX0 2 s1 sd1 ["piece"] spReadRow := ok_readRow L.R2.F T L.R1
  refine F.okX scRead (fun vs H Q E h => ?_) (fun cdv A outer s H vs Q E hr h => ?_)
  · obtain ⟨_, rfl, _⟩ := h
    rfl
  · obtain ⟨t, rfl, hl, kg, kb⟩ := h
    have hr2 : Room 2 _ := hr.mono (by decide)
    have hr4 : Room 4 _ := hr.mono (by decide)
    refine ⟨_, pss_cons (ps_set (i := 1) scRead.nd rfl (Or.inl rfl) (pe_make (E := E) L.M GI hr rfl L.TC.mgC L.bI .nil (passes_call (takes_of rfl rfl rfl rfl) (fun _ _ _ _ z => z)) (pa_cons (pe_lc (own := [("piece", 2)]) (g := gName 2) (tt := tYes) (by rfl) scRead.nd (pi_list (pe_bm PySem.F.plainAttrs_str PySem.F.slot_str_split PySem.F.type_str_split mt_split (pv 0) (pa_cons pe_str pa_nil))) (blkOk_by (N := NRead) (sc := defScope sRead) (by decide +kernel))
          (fun _ _ _ _ _ => pg_name (i := 2) scRead.nd rfl (Or.inl rfl)) (fun _ _ _ _ _ => pts_nil)
          (fun _ _ _ _ _ => pe_call GRr hr2 rfl L.R2.M L.R2.F.kp L.R2.B .nil pass0 (pa_cons (pv 2) pa_nil))) pa_nil)))
      (pss_cons (ps_if (pt_cmpR op_ne (pe_callTy (call_strOwn (E := E0) L.mS.at_ L.mS.fn GS hr4 L.bS pass0) (by rfl) T.str_ boot_str' (pa_cons (pv 1) pa_nil)) (pv 0) (nomark _)) (pss_one (ps_raise rfl (takes_of rfl rfl rfl rfl) (pmk_own PySem.F.excBase_ValueError TX.x TX.g TX.k (raises_own TX.b TX.t) (by rfl)))) pss_nil)
      (pss_one (ps_ret (pv 1)))), ?_⟩
    have hps := TS.split_len t "; " (by decide +kernel)
    refine ⟨_, rfl, rfl, _, _, rfl, rfl, by decide +kernel, Nat.le_trans (Nat.add_le_add_right hl 2) (by decide), fun q hq => ⟨q, rfl, ⟨_, SqL.of upd_same⟩, fun Dd hD => ?_⟩⟩
    have sq := new_ (o := .lst ((PySem.Txt.split t "; ").map V.str)) hq
    have hqq : (upd H q (.lst ((PySem.Txt.split t "; ").map V.str))) q = some (.lst ((PySem.Txt.split t "; ").map V.str)) := upd_same
    generalize (upd H q (.lst ((PySem.Txt.split t "; ").map V.str))) = H1 at sq hqq hD
    have hpl : ∀ p ∈ PySem.Txt.split t "; ", p.length ≤ 8000 := fun p hp => Nat.le_trans (TS.part_len hp) hl
    generalize hpcs : PySem.Txt.split t "; " = pcs at hqq hps hpl hD ⊢
    refine lc_acc (xs := pcs.map V.str) (walk_l (K := K) (a := q) (xs := pcs.map V.str)) (by rw [List.length_map]; exact Nat.le_trans hps (Nat.le_trans (Nat.succ_le_succ hl) (by decide))) hD (fun H' s' => SqL.of (s' _ _ hqq)) (fun i acc H' => Ea H' (fun H c r => H c = some (.lst r) ∧ c ≠ Dd) acc ((pcs.map pieceV).take i)) (fun i acc H' e => by rw [e.1, List.length_take, List.length_map]; omega) (by rw [List.take_zero]; exact Ea.nil) (fun i x H' acc Φ Ψ hi hx sm hd he kf => ?_) fun H3 acc s3 hd he => ?_
    · rw [List.getElem?_map, Option.map_eq_some_iff] at hx
      obtain ⟨pc, hpc, rfl⟩ := hx
      have hpcl := hpl pc (List.mem_of_getElem? hpc)
      refine ⟨rfl, ?_⟩
      dsimp only [tYes]
      rw [if_pos rfl]
      refine ⟨_, rfl, pc, rfl, hpcl, fun De H5 s45 hDe hd5 => ?_⟩
      have hd' := s45 _ _ hd
      refine kf _ H5 s45 hd' fun H6 h6 b1 b2 => ?_
      have nDe : De ≠ Dd := (ne_of_none hd hDe).symm
      rw [take_succ' (show (pcs.map pieceV)[i]? = some (pieceV pc) by rw [List.getElem?_map, hpc]; rfl)]
      exact Ea.push (he.imp fun c r z => ⟨b1 _ _ z.2 (s45 _ _ z.1), z.2⟩) ⟨b1 _ _ nDe hd5, nDe⟩
    rw [List.length_map, List.take_of_length_le (by rw [List.length_map]; exact Nat.le_refl _)] at he
    have hcell : ∀ r ∈ pcs.map pieceV, ∀ x ∈ r, (∃ o, x = ev o) ∨ ∃ s, x = .str s := fun r hr x hx => by
      obtain ⟨pc, _, rfl⟩ := List.mem_map.mp hr
      rcases List.mem_append.mp hx with hx | hx
      · obtain ⟨wd, _, rfl⟩ := List.mem_map.mp hx
        exact .inl ⟨_, rfl⟩
      · obtain ⟨wd, _, rfl⟩ := List.mem_map.mp hx
        exact .inr ⟨_, rfl⟩
    have noTab : ∀ ls, GoodL ls → t = txt ls → pcs.map pieceV = ls.map lv := fun ls g e => by
      rw [← hpcs, e]
      exact pieces_txt g
    have s13 := sq.trans s3
    intro x dx nx ndx nex
    refine mk_rows (C := C) (X := X) (.inl hd) (he.imp fun c r z => .inr z.1) (by rw [List.length_map]; omega) (fun r hr x hx => by
      rcases hcell r hr x hx with ⟨o, rfl⟩ | ⟨s, rfl⟩
      · exact cell_ev o
      · exact .str s) nx ndx nex (fun ok H4 s4 r4 => ?_) fun bad H4 s4 => ?_
    · obtain ⟨ls, e, g⟩ := tab_back ok
      rw [e] at r4
      obtain ⟨dx4, T4, refs4, h4x, h4T, h4E⟩ := id r4
      refine ⟨rfl, _, rfl, x, dx4, _, rfl, h4x, x, ls, rfl, r4, g, fun H5 s5 => ⟨_, rfl, _, rfl, rfl, _, rfl, ?_⟩⟩
      by_cases ht : txt ls = t
      · rw [decide_eq_true (by rw [ht])]
        refine iteF ⟨_, rfl, ?_⟩
        refine kg ls g ht.symm x H5 ((s13.trans s4).trans s5) (s13.none nx) ⟨dx4, T4, refs4, s5 _ _ h4x, s5 _ _ h4T, h4E.same s5⟩
      · rw [decide_eq_false (fun z => ht (by injection z))]
        refine iteT (kb ?_ H5 ((s13.trans s4).trans s5))
        rintro ⟨ls', g', e'⟩
        have q := noTab ls' g' e'
        rw [e] at q
        have q := TS.map_inj_on (fun x _ y _ h => lv_inj h) q
        exact ht (by rw [q, e'])
    · refine kb ?_ H4 (s13.trans s4)
      rintro ⟨ls', g', e'⟩
      rw [noTab ls' g' e', tab_lv.mpr g'] at bad
      cases bad
end
end PA

set_option maxHeartbeats 4000000
namespace PA
open PySem L2 RZ
open C8 (pss_cut tCut)
open TC (Lc LOk GoodL verds)
/-- a tuple of the cells, or a list that is none of N -/
def TLx (N : List Addr) (H : Hp) (c : Addr) (r : List V) : Prop := H c = some (.tup r) ∨ (c ∉ N ∧ H c = some (.lst r))
section
variable {N : List Addr} {H H' : Hp} {c a l D : Addr} {r : List V} {n m : Nat}
theorem TLx.same (q : TLx N H c r) (s : Same H H') : TLx N H' c r := q.imp (fun q => s _ _ q) fun q => ⟨q.1, s _ _ q.2⟩
theorem TLx.keep (q : TLx N H c r) (S : StreamAt H a l n) (ha : a ∈ N) (hl : l ∈ N) (k : Keep a l H H') : TLx N H' c r := by
  obtain ⟨ne, ns, x, z, h1, h2, _⟩ := S
  rcases q with q | ⟨nn, q⟩
  · exact .inl (k _ _ (ne_of (H := H) q h1 (by intro z; cases z)) (ne_of (H := H) q h2 (by intro z; cases z)) q)
  · exact .inr ⟨nn, k _ _ (fun e => nn (e ▸ ha)) (fun e => nn (e ▸ hl)) q⟩
theorem TLx.lst {xs ys : List V} (q : TLx N H c r) (hD : D ∈ N) (hd : H D = some (.lst xs)) : TLx N (upd H D (.lst ys)) c r := by
  rcases q with q | ⟨nn, q⟩
  · exact .inl (by rw [upd_ne (ne_of (H := H) q hd (by intro z; cases z))]; exact q)
  · exact .inr ⟨nn, by rw [upd_ne (show c ≠ D from fun e => nn (by rw [e]; exact hD))]; exact q⟩
theorem TLx.tl (q : TLx N H c r) : TLc H c r := q.imp id fun q => q.2
theorem TLx.sub {N' : List Addr} (q : TLx N H c r) (h : ∀ x, x ∈ N' → x ∈ N) : TLx N' H c r := q.imp id fun q => ⟨fun z => q.1 (h _ z), q.2⟩
theorem keep_noneH {a l : Addr} {H H' : Hp} {p : Addr} (k : Keep a l H H') (pa : p ≠ a) (pl : p ≠ l) (h : H' p = Option.none) : H p = Option.none := by
  cases e : H p with
  | none => rfl
  | some o => rw [k p o pa pl e] at h; cases h
end
def spHanded : Sp := fun vs H Q _ => ∃ (a l R : Addr) (n : Nat) (refs : List V) (rows : List (List V)), vs = [.ref a, .ref R] ∧ StreamAt H a l n ∧ n ≤ 5000 ∧ H R = some (.lst refs) ∧ R ≠ a ∧ R ≠ l ∧ Ea H (TLx [a, l]) refs rows ∧ rows.length ≤ 60 ∧
  ∀ (G : Addr) (refs' : List V) (n' : Nat) (H' : Hp), (H' G = some (.lst refs') ∨ H' G = some (.tup refs')) → Ea H' (TLx [a, l, R, G]) refs' rows → H G = none → StreamAt H' a l n' → n' ≤ n + 70 → Keep a l H H' → Q (.ref G) H'
section
variable {P : Program} {w : World} {K : PySem.W.Frag} {mg : Str → Option Value} {base : Heap} {C : Addr}
theorem scHanded : FnScope ["_law_stream", "_law_rows", "_law_some", "_law_row"] ["_law_stream", "_law_rows"] (defScope sHanded) := ⟨rfl, rfl, rfl, by decide +kernel, rfl, by decide +kernel, by decide +kernel⟩
theorem ok_handed {f g : Addr} {fd gd : FuncData} (F : Fun K "_law_m_handed" "_law_m_handed" sHanded f fd) (T : Txt K mg) (D : Df K mg "_law_draw" sDraw g gd ["_law_stream", "_law_many"]) : FnOk P w K mg base CX0 2 f fd ["_law_stream", "_law_rows"] spHanded := by
  have G : FnOk P w K mg base CX0 1 g gd ["_law_stream", "_law_many"] spDraw := ok_draw D.F T
  refine F.ok scHanded (fun vs H Q E h => ?_) (fun cdv A outer s H vs Q E hr h => ?_)
  · obtain ⟨a, l, R, _, _, _, rfl, _⟩ := h
    rfl
  · obtain ⟨a, l, R, n, refs, rows, rfl, S0, hn, hR, Ra, Rl, hE, h60, kk⟩ := h
    have e24 := @sm48
    have hlr : refs.length = rows.length := hE.1
    refine ⟨_, pss_cons (ps_setLc (i := 2) (own := [("_law_row", 3)]) (g := gName 3) (tt := tYes) (by rfl) scHanded.nd rfl rfl (sw_true rfl rfl rfl (by decide +kernel)) (pi_list (pv 1)) (blkOk_by (N := ["_law_stream", "_law_rows", "_law_some", "_law_row"]) (sc := defScope sHanded) (by decide +kernel))
          (fun _ _ _ _ _ => pg_name (i := 3) scHanded.nd rfl (Or.inl rfl)) (fun _ _ _ _ _ => pts_nil)
          (fun _ _ _ _ _ => pe_ifExp (pt_cmpR op_eq (pe_call G hr rfl D.M D.F.kp D.B .nil pass0 (pa_cons (pv 0) (pa_cons pe_int pa_nil))) pe_int (nomark _)) (pe_callTy (call_listK (K := K) rfl) (by rfl) T.list_ boot_list' (pa_cons (pv 3) pa_nil)) (pe_callTy (call_tupleK (K := K) rfl) (by rfl) T.tup_ boot_tuple' (pa_cons (pv 3) pa_nil))))
      (pss_one (ps_ret (pe_ifExp (pt_cmpR op_eq (pe_call G hr rfl D.M D.F.kp D.B .nil pass0 (pa_cons (pv 0) (pa_cons pe_int pa_nil))) pe_int (nomark _)) (pv 2) (pe_callTy call_tuple_of (by rfl) T.tup_ boot_tuple' (pa_cons (pv 2) pa_nil))))), ?_⟩
    refine ⟨_, rfl, R, rfl, ⟨_, SqL.of hR⟩, fun Dd hD => ?_⟩
    obtain ⟨Da, Dl⟩ := S0.ne hD
    refine lc_list (K := K) (a := R) (xs := refs) (fun i H' => StreamAt H' a l (n + i) ∧ Keep a l H H' ∧ ∃ acc, H' Dd = some (.lst acc) ∧ Ea H' (TLx [a, l, R, Dd]) acc (rows.take i)) ?_ ?_ ?_ ?_
    · exact ⟨S0.same (new_ hD), Keep.of (new_ hD), [], upd_same, by rw [List.take_zero]; exact Ea.nil⟩
    · exact fun i H' _ q => SqL.of (q.2.1 _ _ Ra Rl hR)
    · rintro i x H1 hx ⟨S1, kp1, acc, hd, he⟩
      obtain ⟨c, r, rfl, hr', hc⟩ := hE.at_ hx
      have hi : i < rows.length := (List.getElem?_eq_some_iff.mp hr').1
      have hal : acc.length < sizeLine := by
        rw [he.1, List.length_take]
        exact Nat.lt_of_le_of_lt (Nat.le_trans (Nat.min_le_left _ _) (Nat.le_of_lt hi)) (Nat.lt_of_le_of_lt h60 (by decide))
      refine ⟨rfl, ?_⟩
      dsimp only [tYes]
      rw [if_pos rfl]
      refine ⟨_, rfl, a, l, _, _, rfl, S1, by omega, by decide, e24 (by decide) (by decide), fun d H2 d0 d1 S2 kp2 => ⟨rfl, _, rfl, ?_⟩⟩
      have hd2 := kp2 _ _ Da Dl hd
      have hc2 : TLx [a, l] H2 c r := (hc.keep S0 (by simp) (by simp) kp1).keep S1 (by simp) (by simp) kp2
      have he2 : Ea H2 (TLx [a, l, R, Dd]) acc (rows.take i) := he.imp fun c' r' q => q.keep S1 (by simp) (by simp) kp2
      have fin : ∀ q H3, Same H2 H3 → TLx [a, l, R, Dd] H3 q r → ∃ acc', H3 Dd = some (.lst acc') ∧ acc'.length < sizeLine ∧
          (StreamAt (upd H3 Dd (.lst (acc' ++ [.ref q]))) a l (n + (i + 1)) ∧ Keep a l H (upd H3 Dd (.lst (acc' ++ [.ref q]))) ∧ ∃ acc2, (upd H3 Dd (.lst (acc' ++ [.ref q]))) Dd = some (.lst acc2) ∧ Ea (upd H3 Dd (.lst (acc' ++ [.ref q]))) (TLx [a, l, R, Dd]) acc2 (rows.take (i + 1))) := by
        intro q H3 s3 hq
        have hd3 := s3 _ _ hd2
        refine ⟨acc, hd3, hal, (S2.same s3).lst hd3 Da Dl, ?_, acc ++ [.ref q], upd_same, ?_⟩
        · intro c' o ca cl e
          rw [upd_ne (ne_of_none e hD)]
          exact s3 _ _ (kp2 _ _ ca cl (kp1 _ _ ca cl e))
        · rw [take_succ' hr']
          exact Ea.push (he2.imp fun c' r' z => (z.same s3).lst (by simp) hd3) (hq.lst (by simp) hd3)
      have new3 : ∀ p, H2 p = none → p ∉ [a, l, R, Dd] := by
        intro p hp
        obtain ⟨pa, pl⟩ := S2.ne hp
        have pD : p ≠ Dd := (ne_of_none hd2 hp).symm
        have pR : p ≠ R := (ne_of_none (kp2 _ _ Ra Rl (kp1 _ _ Ra Rl hR)) hp).symm
        simp [pa, pl, pD, pR]
      refine ifD_2 (fun _ => ?_) (fun _ => ?_)
      · rcases hc2 with hc2 | ⟨nc, hc2⟩
        · exact ⟨_, rfl, c, _, rfl, .inr (SqT.of hc2), fun p hp => fin p _ (new_ hp) (.inr ⟨new3 p hp, upd_same⟩)⟩
        · exact ⟨_, rfl, c, _, rfl, .inl (SqL.of hc2), fun p hp => fin p _ (new_ hp) (.inr ⟨new3 p hp, upd_same⟩)⟩
      · rcases hc2 with hc2 | ⟨nc, hc2⟩
        · exact ⟨_, rfl, c, _, rfl, .inr ⟨SqT.of hc2, fin c _ (fun _ _ e => e) (.inl hc2)⟩⟩
        · exact ⟨_, rfl, c, _, rfl, .inl ⟨SqL.of hc2, fun p hp => fin p _ (new_ hp) (.inl upd_same)⟩⟩
    · rintro H1 ⟨S1, kp1, acc, hd, he⟩
      rw [hlr] at S1
      rw [hlr, List.take_length] at he
      refine ⟨_, rfl, a, l, _, _, rfl, S1, by omega, by decide, e24 (by decide) (by decide), fun r H2 r0 r1 S2 kp2 => ⟨rfl, _, rfl, ?_⟩⟩
      have hd2 := kp2 _ _ Da Dl hd
      have he2 : Ea H2 (TLx [a, l, R, Dd]) acc rows := he.imp fun c' r' q => q.keep S1 (by simp) (by simp) kp2
      refine ifD_2 (fun _ => ?_) (fun _ => ?_)
      · exact ⟨_, rfl, kk Dd acc _ H2 (.inl hd2) he2 hD S2 (by omega) (kp1.trans kp2)⟩
      · refine ⟨_, rfl, Dd, _, rfl, .inl ⟨SqL.of hd2, fun p hp => ?_⟩⟩
        refine kk p acc _ _ (.inr upd_same) (he2.imp fun c' r' q => ?_) ?_ (S2.same (new_ hp)) (by omega) ((kp1.trans kp2).trans (Keep.of (new_ hp)))
        · rcases q with q | ⟨nn, q⟩
          · exact .inl (new_ hp _ _ q)
          · refine .inr ⟨fun z => ?_, new_ hp _ _ q⟩
            simp only [List.mem_cons, List.not_mem_nil, or_false] at nn z
            have : c' ≠ p := ne_of_none q hp
            rcases z with z | z | z | z
            · exact nn (.inl z)
            · exact nn (.inr (.inl z))
            · exact nn (.inr (.inr (.inl z)))
            · exact this z
        · obtain ⟨pa, pl⟩ := S2.ne hp
          exact keep_noneH (kp1.trans kp2) pa pl hp
end
end PA

set_option maxHeartbeats 4000000
namespace PA
open PySem L2 RZ
open C8 (pss_cut tCut)
open TC (Lc LOk GoodL verds)
theorem Keep.new {a l : Addr} {H H' : Hp} {p : Addr} {o : HO} (k : Keep a l H H') (hp : H' p = none) : Keep a l H (upd H' p o) := k.trans (Keep.of (new_ hp))
theorem Keep.none {a l : Addr} {H H' : Hp} {p : Addr} (k : Keep a l H H') (pa : p ≠ a) (pl : p ≠ l) (h : H' p = Option.none) : H p = Option.none := by
  cases e : H p with
  | none => rfl
  | some o => rw [k p o pa pl e] at h; cases h
theorem TupOf.kp {α : Type} {f : α → List V} {H H' : Hp} {a l c : Addr} {n : Nat} {r : α} (q : TupOf f H c r) (S : StreamAt H a l n) (k : Keep a l H H') : TupOf f H' c r := by
  obtain ⟨ne, ns, x, z, h1, h2, _⟩ := S
  exact k _ _ (ne_of (H := H) q h1 (by intro z; cases z)) (ne_of (H := H) q h2 (by intro z; cases z)) q
theorem EaKp {α : Type} {f : α → List V} {H H' : Hp} {a l : Addr} {n : Nat} {xs : List V} {ds : List α} (e : Ea H (TupOf f) xs ds) (S : StreamAt H a l n) (k : Keep a l H H') : Ea H' (TupOf f) xs ds := e.imp fun c r q => TupOf.kp (f := f) q S k
theorem keep_upd {a l D : Addr} {H H' : Hp} {o : HO} (k : Keep a l H H') (hD : H D = Option.none) : Keep a l H (upd H' D o) := fun c u ca cl e => by
  rw [upd_ne (ne_of_none e hD)]
  exact k c u ca cl e
theorem sm4 {z : Int} (h1 : 1 ≤ z) (h2 : z ≤ 1000) : Sm 9000 z := by
  refine sm9000 (n := 10) ?_ (by decide)
  have e : (2 : Nat) ^ 10 = 1024 := by decide
  show z.natAbs < 2 ^ 10
  rw [e]
  omega
def spLines : Sp := fun vs H Q _ => ∃ (a l : Addr) (n : Nat) (most : Int), vs = [.ref a, .int most] ∧ StreamAt H a l n ∧ n ≤ 10000 ∧ 1 ≤ most ∧ most ≤ 48 ∧
  ∀ (L : Addr) (refs : List V) (ls : List Lc) (n' : Nat) (H' : Hp), H' L = some (.lst refs) → H L = none → L ≠ a → L ≠ l → Ea H' isLn refs ls → GoodL ls → StreamAt H' a l n' → n' ≤ n + 200 → Keep a l H H' → Q (.ref L) H'
abbrev NCl : List Str := ["_law_stream", "_law_most", "_law_size", "_law_found", "_law_k", "_law_low", "_law_high", "_law_word"]
section
variable {P : Program} {w : World} {K : PySem.W.Frag} {mg : Str → Option Value} {base : Heap} {C : Addr}
theorem scClaim : FnScope NCl ["_law_stream", "_law_most"] (defScope sClaim) := ⟨rfl, rfl, rfl, by decide +kernel, rfl, by decide +kernel, by decide +kernel⟩
theorem ok_claim {f g g2 : Addr} {fd gd gd2 : FuncData} (F : Fun K "_law_m_claim" "_law_m_claim" sClaim f fd) (T : Txt K mg) (D : Df K mg "_law_draw" sDraw g gd ["_law_stream", "_law_many"]) (D2 : Df K mg "_law_pick" sPick g2 gd2 ["_law_stream", "_law_some"]) : FnOk P w K mg base CX0 3 f fd ["_law_stream", "_law_most"] spLines := by
  have G : FnOk P w K mg base CX0 1 g gd ["_law_stream", "_law_many"] spDraw := ok_draw D.F T
  have G2 : FnOk P w K mg base CX0 2 g2 gd2 ["_law_stream", "_law_some"] spPick := ok_pick D2.F T D
  refine F.ok scClaim (fun vs H Q E h => ?_) (fun cdv A outer s H vs Q E hr h => ?_)
  · obtain ⟨a, l, _, _, rfl, _⟩ := h
    rfl
  · obtain ⟨a, l, n, most, rfl, S0, hn, h1, h48, kk⟩ := h
    have hr1 : Room 1 _ := hr.mono (by decide)
    refine ⟨_, pss_cons (ps_par (i := 2) (j := 3) (by rfl) scClaim.nd rfl rfl (by decide) rfl rfl (pa_cons (pe_op op_add pe_int (pe_call G hr1 rfl D.M D.F.kp D.B .nil pass0 (pa_cons (pv 0) (pa_cons (pv 1) pa_nil)))) (pa_cons (pe_lst pa_nil) pa_nil)) (by rfl))
      (pss_cons (ps_for PassesOwn.never rfl (pi_range1 (by rfl) T.range_ (pa_cons (pv 2) pa_nil)) (pg_name (i := 4) scClaim.nd rfl (Or.inl rfl))
        (pss_cons (ps_par (i := 5) (j := 6) (by rfl) scClaim.nd rfl rfl (by decide) rfl rfl (pa_cons (pe_call G hr1 rfl D.M D.F.kp D.B .nil pass0 (pa_cons (pv 0) (pa_cons (pv 2) pa_nil))) (pa_cons (pe_call G hr1 rfl D.M D.F.kp D.B .nil pass0 (pa_cons (pv 0) (pa_cons (pv 2) pa_nil))) pa_nil)) (by rfl))
        (pss_cons (ps_set (i := 7) scClaim.nd rfl (Or.inl rfl) (pe_call G2 hr rfl D2.M D2.F.kp D2.B .nil pass0 (pa_cons (pv 0) (pa_cons (pe_lst (pa_cons pe_str (pa_cons pe_str (pa_cons pe_str (pa_cons pe_str (pa_cons pe_str (pa_cons pe_str (pa_cons pe_str (pa_cons pe_str pa_nil))))))))) pa_nil))))
        (pss_one (ps_expr (pe_bm PySem.F.plainAttrs_list PySem.F.slot_list_append PySem.F.type_list_append mt_append (pv 3) (pa_cons (pe_tup (pa_cons (pv 5) (pa_cons (pv 6) (pa_cons (pv 7) pa_nil)))) pa_nil)))))))
      (pss_one (ps_ret (pv 3)))), ?_⟩
    refine ⟨_, rfl, _, rfl, a, l, n, most, rfl, S0, by omega, by omega, sm48 (by omega) (by omega), fun r H1 r0 r1 S1 k1 => ⟨_, _, rfl, rfl, ?_⟩⟩
    obtain ⟨sz, hsz⟩ : ∃ sz : Nat, 1 + r = (sz : Int) := ⟨(1 + r).toNat, (Int.toNat_of_nonneg (by omega)).symm⟩
    refine ⟨Nat.zero_le _, fun Dd hD => ?_⟩
    obtain ⟨Da, Dl⟩ := S1.ne hD
    have sD := new_ (o := .lst []) hD
    refine ⟨_, _, rfl, _, rfl, _, rfl, by omega, by omega, ?_⟩
    have e1 : (1 + r).toNat = sz := by omega
    refine for_range (n := (1 + r).toNat) (fun i σ' H' => ∃ n' x4 x5 x6 x7 acc ds, σ' = [some (.ref a), some (.int most), some (.int (1 + r)), some (.ref Dd), x4, x5, x6, x7] ∧ n' ≤ n + 1 + 3 * i ∧ StreamAt H' a l n' ∧ Keep a l H1 H' ∧ H' Dd = some (.lst acc) ∧ Ea H' isLn acc ds ∧ ds.length = i ∧ ∀ d ∈ ds, LOk sz d) ?_ ?_ ?_
    · exact ⟨n + 1, _, _, _, _, [], [], rfl, by omega, S1.same sD, Keep.of sD, upd_same, Ea.nil, rfl, fun d hd => by cases hd⟩
    · rintro i _ H2 hi ⟨n', x4, x5, x6, x7, acc, ds, rfl, hn', S2, k2, hd, he, hl, ho⟩
      rw [e1] at hi
      refine ⟨_, rfl, _, rfl, a, l, n', _, rfl, S2, by omega, by omega, sm48 (by omega) (by omega), fun r1 H3 a0 a1 S3 k3 => ?_⟩
      refine ⟨_, rfl, _, rfl, a, l, n' + 1, _, rfl, S3, by omega, by omega, sm48 (by omega) (by omega), fun r2 H4 b0 b1 S4 k4 => ⟨_, _, rfl, ?_⟩⟩
      refine ⟨_, rfl, by show 8 ≤ sizeLine; decide, fun q hq => ?_⟩
      obtain ⟨qa, ql⟩ := S4.ne hq
      have sq := new_ (o := .lst [V.str "free", V.str "last", V.str "free", V.str "other", V.str "free", V.str "none", V.str "last", V.str "free"]) hq
      refine ⟨a, l, q, n' + 2, _, rfl, S4.same sq, by omega, upd_same, qa, ql, by decide, by decide, fun j x H5 hx S5 k5 => ?_⟩
      obtain ⟨z, rfl, hz⟩ : ∃ z : Str, x = .str z ∧ z ∈ verds := by
        have hm := List.mem_of_getElem? hx
        simp only [List.mem_cons, List.not_mem_nil, or_false] at hm
        rcases hm with rfl | rfl | rfl | rfl | rfl | rfl | rfl | rfl <;> exact ⟨_, rfl, by decide +kernel⟩
      have k25 : Keep a l H2 H5 := ((k3.trans k4).trans (Keep.of sq)).trans k5
      have hd5 := k25 _ _ Da Dl hd
      have he5 := EaKp he S2 k25
      refine ⟨_, rfl, .inl ⟨rfl, _, SqL.of hd5⟩, _, rfl, _, rfl, _, rfl, by show 3 ≤ sizeLine; decide, fun t ht => ?_⟩
      obtain ⟨i1, rfl, hi1⟩ : ∃ i1 : Nat, r1 = (i1 : Int) ∧ i1 < sz := ⟨r1.toNat, by omega, by omega⟩
      obtain ⟨i2, rfl, hi2⟩ : ∃ i2 : Nat, r2 = (i2 : Int) ∧ i2 < sz := ⟨r2.toNat, by omega, by omega⟩
      have st := new_ (o := .tup (lv (i1, i2, z))) ht
      have hd6 := st _ _ hd5
      refine ⟨Dd, acc, _, rfl, rfl, hd6, ?_, ?_⟩
      · rw [he.1, hl]
        exact Nat.lt_of_lt_of_le hi (Nat.le_trans (by omega : sz ≤ 48) (by decide))
      refine ⟨n' + 3, _, _, _, _, acc ++ [.ref t], ds ++ [(i1, i2, z)], rfl, by omega, (S5.same st).lst hd6 Da Dl, keep_upd ((k2.trans k25).trans (Keep.of st)) hD, upd_same, ?_, ?_, ?_⟩
      · exact ((he5.same st).imp fun c r q => TupOf.lst (f := lv) q hd6).push (TupOf.lst (f := lv) (r := (i1, i2, z)) upd_same hd6)
      · rw [List.length_append, hl]
        rfl
      · intro d hd'
        rcases List.mem_append.mp hd' with hd' | hd'
        · exact ho d hd'
        · cases List.mem_singleton.mp hd'
          exact ⟨hi1, hi2, hz⟩
    · rintro _ H2 ⟨n', x4, x5, x6, x7, acc, ds, rfl, hn', S2, k2, hd, he, hl, ho⟩
      rw [e1] at hl hn'
      refine ⟨_, rfl, kk Dd acc ds n' H2 hd (k1.none Da Dl hD) Da Dl he ⟨by omega, by omega, ?_⟩ S2 (by omega) (k1.trans k2)⟩
      rw [hl]
      exact ho
end
end PA

set_option maxHeartbeats 4000000
/-! text.replace(old, new, 1), where old and new come out of lists -/
namespace PySem
open Builtin Builtin.Str PySem.W
theorem args_rep4 (a b c d : Value) : argsOk "str.replace" ⟨[a, b, c, d], []⟩ := rfl
section
variable {prog : Program} {w : World} {A : Around} {E : Value → Shared → Prop} {s : Shared} {x y z : Str} {t u v c : Tok} {Q : Value → Shared → Prop} {K : Frag}
theorem sharing_none {M : Model} {t : Tok} {Q : Bool → Shared → Prop} (X : K.In s.heap) (e : nsIn K cStatics sharingNotToldKey = some none) (h : Q false s) : wpAny M A (sharingNotTold t) Q E s := by
  unfold sharingNotTold
  refine wpAny_bind ((looks_nsIn X e).at ?_)
  exact wpAny_pure h
theorem isSame_strK {M : Model} {Q : Bool → Shared → Prop} (h1 : u ≠ 0) (h2 : v ≠ 0) (X : K.In s.heap) (e : nsIn K cStatics sharingNotToldKey = some none) (hq : ∀ b, Q b s) : wpAny M A (isSame (.str y u) (.str z v)) Q E s := by
  have h0 : (u == 0 || v == 0) = false := by simp [h1, h2]
  show wpAny M A (isSame.created (y == z) u v) Q E s
  unfold isSame.created
  refine wpAny_ite ?_
  split
  · rename_i h; rw [h0] at h; exact absurd h Bool.false_ne_true
  refine wpAny_ite ?_
  split
  · exact wpAny_pure (hq _)
  refine wpAny_ite ?_
  split
  · exact wpAny_pure (hq _)
  refine wpAny_bind (sharing_none X e ?_)
  first | rw [if_neg Bool.false_ne_true] | simp only [Bool.false_eq_true, if_false]
  refine wpAny_bind (sharing_none X e ?_)
  first | rw [if_neg Bool.false_ne_true] | simp only [Bool.false_eq_true, if_false]
  exact wpAny_bind (wpAny_rule (wpAny_bind (wpAny_askSetting (wpAny_pure (hq _)))))
theorem one_cut {cuts : List Nat} (h : cuts.length ≤ 1) : (glued z (partsBetween x cuts y.length)).length ≤ 2 * x.length + z.length := by
  have sub : ∀ i j, (strSub x i j).length ≤ x.length := fun i j => by
    rw [TS.cs_len, TS.cs_len]
    show (strSub x i j).cps.toList.length ≤ x.cps.toList.length
    rw [StrLaws.strSub_toList, List.length_take, List.length_drop]
    omega
  rw [StrLaws.glued_eq_join, StrLaws.partsBetween_eq]
  match cuts, h with
  | [], _ =>
    rw [StrLaws.partsFrom.eq_1, Str.join.eq_2]
    have := sub 0 x.length
    omega
  | [k], _ =>
    rw [StrLaws.partsFrom.eq_2, StrLaws.partsFrom.eq_1, TS.join_two, Str.join.eq_2, Str.length_append, Str.length_append]
    have := sub 0 k
    have := sub (k + y.length) x.length
    omega
theorem call_replace4 (X : K.In s.heap) (e : nsIn K cStatics sharingNotToldKey = some none) (hu : u ≠ 0) (hv : v ≠ 0) (hx : x.length ≤ 100000) (hz : z.length ≤ 100)
    (hq : ∀ (r : Str) t' k, r.length ≤ 2 * x.length + z.length → Q (.str r t') { s with toks := k }) : wpAny (model prog w) A (call (.builtin "str.replace") [.str x t, .str y u, .str z v, .int 1 c]) Q E s := by
  refine wpAny_call (codeAny_call_builtin F.slot_str_replace.plain F.entry_str_replace (F.slot_str_replace.check _ _ _ _ _ _ _ _ (typeIs_str _ _ _) (args_rep4 _ _ _ _) ?_))
  show wpAny _ _ (if ((occurrences x y 0 x.length 1).isEmpty || (y.length == 0 && z.length == 0)) = true then (do rule "str.replace.nothing"; ret (.str x t)) else
          (do let same ← isSame (.str y u) (.str z v)
              if same = true then (do rule "str.replace.old-is-new"; ret (.str x t)) else
              if tooLong (x.length + (occurrences x y 0 x.length 1).length * z.length) = true then unsupported "str.replace:memory" else
              retStr (glued z (partsBetween x (occurrences x y 0 x.length 1) y.length)))) _ _ _
  have h1 := StrLaws.occ_length_le x y 0 x.length 1
  have same : (fun (r : Result) s' => match r with | .ok (.ret v) => Q v s' | .ok _ => False | .error e => E e s') (.ok (.ret (.str x t))) s := hq x t s.toks (by omega)
  split
  · exact wpAny_bind (wpAny_rule (wpAny_pure same))
  refine wpAny_bind (isSame_strK hu hv X e fun b => ?_)
  cases b with
  | true => exact wpAny_bind (wpAny_rule (wpAny_pure same))
  | false =>
    have hl : tooLong (x.length + (occurrences x y 0 x.length 1).length * z.length) = false := by
      have : (occurrences x y 0 x.length 1).length * z.length ≤ 1 * z.length := Nat.mul_le_mul_right _ h1
      unfold tooLong sizeLine
      exact decide_eq_false (by omega)
    show wpAny _ _ (if tooLong (x.length + (occurrences x y 0 x.length 1).length * z.length) = true then unsupported "str.replace:memory" else retStr (glued z (partsBetween x (occurrences x y 0 x.length 1) y.length))) _ _ _
    rw [hl]
    have hb := one_cut (x := x) (y := y) (z := z) h1
    exact wpAny_bind (wpAny_mkStr (wpAny_pure (hq _ _ _ hb)) (by rw [sizeLine_eq]; omega))
end
end PySem

set_option maxHeartbeats 4000000
/-! a written list of texts, whose tokens are known to be none of 0 -/
namespace L2
open PySem PySem.Spec PyProof.Rows CwR
/-- the list at q holds just these values -/
def fzl (q : Addr) (its : List Value) : HO := .ext fun h => ∃ c : Nat, h.get? q = some { cls := .type "list", dict := none, data := .seq its.toArray c, slots := #[] }
theorem fzl_ok {P : Program} {w : World} {H : Hp} {h : Heap} {q : Addr} {its : List Value} {c : Nat} (he : h.get? q = some { cls := .type "list", dict := none, data := .seq its.toArray c, slots := #[] }) : ObjOk P w H h q (fzl q its) :=
  ⟨⟨c, he⟩, ⟨_, he⟩, fun h1 h2 z k => by
    obtain ⟨c, e⟩ := z
    exact ⟨c, k _ e⟩⟩
theorem fzl_ne {q : Addr} {its : List Value} {xs : List V} : fzl q its ≠ .lst xs := fun z => by
  have z' : HO.ext _ = HO.lst xs := z
  cases z'
inductive CEs : List Expr → List Str → Prop
  | nil : CEs [] []
  | cons {es : List Expr} {cs : List Str} (c : Str) (k : Nat) (p : Pos) (h : CEs es cs) : CEs (.Constant (.str c) k p :: es) (c :: cs)
def Nz (cs : List Str) (us : List Value) : Prop := us.length = cs.length ∧ ∀ (i : Nat) (u : Value), us[i]? = some u → ∃ (z : Str) (t : Tok), u = .str z t ∧ t ≠ 0 ∧ cs[i]? = some z
theorem consts_run {X : Cx} {A : Around} {E : Value → Shared → Prop} {es : List Expr} {cs : List Str} (h : CEs es cs) : ∀ {pos : Pos} {s : Shared} {Q : List Value → Shared → Prop}, 1 ≤ s.toks → (∀ us k, s.toks ≤ k → Nz cs us → Q us { s with toks := k }) →
    wpAny (model X.prog X.w) A (spliced (backTo pos (starEach es X.env))) Q E s := by
  induction h with
  | nil => exact fun h0 q => Calls.spliced_nil (q [] _ (Nat.le_refl _) ⟨rfl, fun i u e => by simp at e⟩)
  | cons c k p h ih =>
    intro pos s Q h0 q
    show wpAny _ _ (spliced ((false, eval (.Constant (.str c) k p) X.env) :: backTo pos (starEach _ X.env))) _ _ s
    refine Calls.spliced_cons (Calls.Constant_str ?_)
    refine ih (by show 1 ≤ s.toks + 1; omega) fun us k' hk n => ?_
    refine q _ k' (by have : s.toks + 1 ≤ k' := hk; omega) ⟨by rw [List.length_cons, List.length_cons, n.1], fun i u e => ?_⟩
    cases i with
    | zero =>
      cases e
      exact ⟨c, s.toks, rfl, (by intro z; have : (s.toks : Nat) = 0 := z; omega), rfl⟩
    | succ i => exact n.2 i u e
def tFz (cs : List Str) : TE := fun σ H Q => ∀ (q : Addr) (its : List Value), H q = none → Nz cs its → Q (.ref q) (upd H q (fzl q its))
theorem pet_fz {X : Cx} {es : List Expr} {cs : List Str} {pos : Pos} (h : CEs es cs) (hl : cs.length ≤ 100) : PET X (.List es pos) (tFz cs) := by
  intro pins s σ H Q h0 I hq
  refine wpAny_List_spliced (consts_run h h0 fun us k hk n => ⟨by rw [n.1]; exact Nat.le_trans hl (by decide), ?_⟩)
  have I1 : Inv X pins σ H { s with toks := k } := I.tok k
  have hf : H s.heap.objs.size = none := I.hok.fresh (Nat.le_refl _)
  refine ⟨.ref s.heap.objs.size, upd H s.heap.objs.size (fzl s.heap.objs.size us), I1.laid (t' := k) (fun b u e => Heap.get?_push_of_some _ e) (Nat.le_refl _) ?_, rfl, hq _ _ hf n⟩
  exact fzl_ok (Heap.get?_push_size _ rfl)
theorem call_lenF {X : Cx} : CallR X (.builtin "len") (fun xs H Q => ∃ (q : Addr) (its : List Value), xs = [.ref q] ∧ H q = some (fzl q its) ∧ its.length ≤ 100 ∧ Q (.int (its.length : Nat)) H) := by
  intro pins s σ H xs us Q I r h
  obtain ⟨p, its, rfl, hq, hl, q⟩ := h
  obtain ⟨u, rfl, rx⟩ := vals1 r
  cases rx
  have hn := line63
  obtain ⟨⟨c, he⟩, _⟩ := I.hok _ _ hq
  have pl : s.heap.IsList p its.toArray := ⟨_, he, rfl, _, rfl⟩
  exact Calls.call_len_list pl (by simp only [List.size_toArray] <;> omega) ⟨.int (its.length : Nat), H, I.tok _, ⟨s.toks + 1, by rw [List.size_toArray]⟩, q⟩
/-- a def, run: what it gives back is told as a value -/
theorem fn_ofU {CX : CXT} {P : Program} {w : World} {K : PySem.W.Frag} {mg : Str → Option Value} {base : Heap} {k : Nat} {f : Addr} {name qual : Str} {params : Arguments} {body : List Stmt} {scope : Scope} {dV kV doc pm cdv ct oc : Value} {an od : Option Addr}
    {osl : Array (Option Value)} {N ps : List Str} (lk : K.lookup f = some ⟨oc, od, .func (PySem.W.fnOf name qual params body scope dV kV doc pm an cdv ct), osl⟩) (hcd : PySem.W.codeIn K cdv qual = true) (S : FnScope N ps scope)
    {A : Around} {outer : List Env} {s : Shared} {H : Hp} {args : Args} {us : List Value} {vs : List V} {Q : VK} {E : XK} {UE : Value → Prop} (hl : vs.length = ps.length) (hr : Room (k + 1) A) (e0 : Env0 P w K mg base A outer s H)
    (hb : BindsTo s (PySem.W.fnOf name qual params body scope dV kV doc pm an cdv ct) args (ps.zip us)) (r : Vals vs us)
    (hbody : Room k (A.deeper (envOfC qual scope s.heap.objs.size f cdv)) → ∀ s1, Inv (cxOf CX P w K mg base N qual scope f cdv A outer s H E) [] (start N vs) H s1 → wpAny (model P w) (A.deeper (envOfC qual scope s.heap.objs.size f cdv)) (execs body (envOfC qual scope s.heap.objs.size f cdv))
      (fun fl s' => ∃ u, fl = .ret u ∧ UE u ∧ ∃ v σ' H', Inv (cxOf CX P w K mg base N qual scope f cdv A outer s H E) [] σ' H' s' ∧ RelV v u ∧ Q v H') (cxOf CX P w K mg base N qual scope f cdv A outer s H E).xe s1) :
    codeAny (model P w) A (.call (.ref f) args) (fun r s' => match r with
      | .ok (.ret u) => UE u ∧ CE outer P w H s Q u s'
      | .ok _ => False
      | .error e => CX outer H s E e s') s := by
  have KX : K.In s.heap := e0.mod.kin.keeps fun b o e => (e0.bs b o e).1
  have lim : s.heap.NoLimit := e0.mod.nolimit.keeps fun b o e => (e0.bs b o e).1
  have hkind : ∀ y ∈ ps.zip us, scope.names.lookup y.1 = some .local ∨ (scope.names.lookup y.1 = some .cell ∧ ((cellsFrom (s.heap.objs.size + 1) scope.names []).lookup y.1).isSome = true) := fun ⟨n, v⟩ hy => by
    rcases S.par n (List.of_mem_zip hy).1 with q | q
    · exact .inl q
    · exact .inr ⟨q, PySem.W.cellsFrom_some _ _ _ (.inl q)⟩
  refine codeAny_call_function hr.depth (KX _ _ lk) rfl S.co S.gen rfl (PySem.W.codeRec_of KX hcd) (hb _ _ _ _ ?_)
  refine wpAny_newFunctionEnv_cells S.kind hkind fun env he s1 x => ?_
  subst he
  refine ⟨lim.keeps x.toInCall.keep, codeAny_func ?_⟩
  have I : Inv (cxOf CX P w K mg base N qual scope f cdv A outer s H E) [] (start N vs) H s1 := inv_start S hr.hd e0 hl r x
  refine wpAny_mono (hbody (hr.deeper _) s1 I) (fun fl s' hs => ?_) fun e s' hs => hs
  obtain ⟨u, rfl, hu, v, σ', H', J, rv, q⟩ := hs
  exact ⟨hu, v, H', J.os, J.bare, J.base, J.hok, rv, q⟩
/-- return xs[e], xs a written list: one of its values -/
theorem ret_item {X : Cx} {x : Str} {i : Nat} {e : Expr} {te : TE} {p pos rp : Pos} {pins : List (Addr × Obj)} {s : Shared} {σ : St} {H : Hp} {Q : Hp → Prop} {q : Addr} {its : List Value} {cs : List Str} (hx : PE X (.Name x p) (tVar i)) (he : PE X e te) (hs : PlainIx e) (I : Inv X pins σ H s) (hσ : σ[i]? = some (some (.ref q))) (n : Nz cs its) (h100 : cs.length ≤ 100)
    (h : te σ H fun y H1 => ∃ j : Nat, y = .int (j : Int) ∧ j < its.length ∧ H1 q = some (fzl q its) ∧ Q H1) :
    wpAny (model X.prog X.w) X.A (execs [.Return (some (.Subscript (.Name x p) e pos)) rp] X.env) (fun fl s' => ∃ u, fl = .ret u ∧ u ∈ its ∧ ∃ v σ' H', Inv X pins σ' H' s' ∧ RelV v u ∧ (∃ z, z ∈ cs ∧ v = V.str z) ∧ Q H') X.xe s := by
  have E1 : wpAny (model X.prog X.w) X.A (eval (.Subscript (.Name x p) e pos) X.env) (fun u s' => u ∈ its ∧ ∃ v H', Inv X pins σ H' s' ∧ RelV v u ∧ (∃ z, z ∈ cs ∧ v = V.str z) ∧ Q H') X.xe s := by
    refine Subscript_ (thn (hx.run pins s σ H (fun x H1 => x = .ref q ∧ H1 = H) I ⟨_, hσ, rfl, rfl⟩) fun v s1 ⟨x, H1, I1, r1, e1, e2⟩ => ?_)
    subst e1
    subst e2
    cases r1
    refine thn (he.run pins s1 σ _ _ I1 h) fun u s2 ⟨y, H2, I2, r2, j, ey, hj, hq2, q2⟩ => ?_
    subst ey
    obtain ⟨t, rfl⟩ := r2
    obtain ⟨⟨c, hc⟩, _⟩ := I2.hok _ _ hq2
    have pl : s2.heap.IsList q its.toArray := ⟨_, hc, rfl, _, rfl⟩
    have hit : its[j]? = some its[j] := List.getElem?_eq_getElem hj
    obtain ⟨z, tz, e1, e2, e3⟩ := n.2 j _ hit
    have h1 := n.1
    have h63 : j < 2 ^ 63 := by
      have e63 : (2 : Nat) ^ 63 = 9223372036854775808 := by decide
      rw [e63]
      omega
    exact item_listR (k := (j : Int)) pl (by omega) (by omega) (by rw [Int.toNat_natCast]; simpa using hit) ⟨List.getElem_mem hj, .str z, H2, I2, by rw [e1]; exact ⟨tz, rfl⟩, ⟨z, List.mem_of_getElem? e3, rfl⟩, q2⟩ (hs _ _)
  refine wpAny_execs_cons (wpAny_Return_some (thn E1 fun u s' hh => ?_))
  obtain ⟨h1, v, H', I', rv, hz, q'⟩ := hh
  exact ⟨u, rfl, h1, v, σ, H', I', rv, hz, q'⟩
end L2

set_option maxHeartbeats 4000000
/-! a word picked out of a written list of texts, its token known; replace by it -/
namespace PA
open PySem PySem.Spec PyProof.Rows L2 CwR RZ
/-- a local name holds a value that is known -/
theorem inv_local {X : Cx} {pins : List (Addr × Obj)} {σ : L2.St} {H : Hp} {s : Shared} {i : Nat} {x : Str} {v : V} {u : Value} {h' : Heap} {m : Str → Option Value} {t' : Nat} (I : Inv X pins σ H s) (hN : X.N.Nodup) (hi : X.N[i]? = some x) (hk : X.env.scope.names.lookup x = some .local) (r : RelV v u)
    (hl : ∀ (i : Nat) (x : Str) (v : V), X.N[i]? = some x → σ[i]? = some (some v) → Vis X.env.scope x → ∃ u, RelV v u ∧ Look X.env s.heap m x u) (hoL : ∃ o, s.heap.get? X.env.locals = some o)
    (hn' : h'.Ns X.env.locals (fun y => if y = x then some u else m y)) (hs : Heap.SameBut X.env.locals s.heap h') : Inv X pins (σ.set i (some v)) H { s with heap := h', toks := t' } := by
  have hiσ : i < σ.length := by rw [I.len]; exact (List.getElem?_eq_some_iff.mp hi).1
  have low : ∀ {b : Addr} {o : Obj}, X.s_0.heap.get? b = some o → h'.get? b = s.heap.get? b := fun {b o} e => hs.2 b (Nat.ne_of_lt (Nat.lt_of_lt_of_le (Heap.lt_size e) I.ok.above))
  have track : HOk X.prog X.w H h' := fun b ob e => by
    refine (I.hok b ob e).stay (fun c w' hc q => (hs.2 c ?_).trans q) (fun _ q => q) fun _ _ q => q
    rintro rfl
    rcases hc with rfl | hc
    · rw [I.free] at e; cases e
    · rw [I.free] at hc; cases hc
  refine ⟨I.ok, I.os, I.bare, ⟨fun b o e n hb hx => (low e).trans (I.base.keep b o e n hb hx), fun b o e n hb hx => ?_, I.base.free, fun b o e hx => ?_, I.base.tups, I.base.frzs, I.base.tbls⟩, ⟨_, hn', fun j y v' e1 e2 e3 => ?_⟩, fun y c e => ?_, I.free, I.freeC, fun p hp => ?_, track, by simpa using I.len⟩
  · obtain ⟨sl, e1⟩ := I.base.slot b o e n hb hx
    exact ⟨sl, (low e).trans e1⟩
  · obtain ⟨o', e1⟩ := I.base.there b o e hx
    exact ⟨o', (low e).trans e1⟩
  · by_cases hj : j = i
    · subst hj
      have ey : y = x := Option.some.inj (e1.symm.trans hi)
      rw [List.getElem?_set_self hiσ] at e2
      have ev : v = v' := Option.some.inj (Option.some.inj e2)
      rw [← ev, ey]
      exact ⟨u, r, .inl ⟨hk, if_pos rfl⟩⟩
    · rw [List.getElem?_set_ne (Ne.symm hj)] at e2
      obtain ⟨u', r', q⟩ := hl j y v' e1 e2 e3
      refine ⟨u', r', ?_⟩
      rcases q with ⟨k, e⟩ | ⟨k, c, e, z⟩
      · exact .inl ⟨k, (if_neg fun (ee : y = x) => hj (nodup_ix hN e1 (ee ▸ hi))).trans e⟩
      · exact .inr ⟨k, c, e, z.sameBut hs (I.cne y c e)⟩
  · obtain ⟨w', z⟩ := I.cell y c e
    exact ⟨w', z.sameBut hs (I.cne y c e)⟩
  · obtain ⟨e, n, ne, nf, d⟩ := I.pin p hp
    exact ⟨(hs.2 p.1 ne).trans e, n, ne, nf, d⟩
section
variable {X : Cx}
/-- if e op (a written int): in its suite a token is out -/
theorem ps_ifT {e : Expr} {te : TE} {r : R2} {op : CmpOp} {k : Int} {j : Nat} {cp p pos : Pos} {body els : List Stmt} {t u : TS} (he : PE X e te) (ho : OpR X (compareOp op) r) (ha : PSsT X body t) (hb : PSs X els u) (hm : behindInMarks op (.Constant (.int k) j cp) = false) :
    PS X (.If (.Compare e [op] [.Constant (.int k) j cp] p) body els pos) (tIfS (tTest (tOp r te (tC (.int k)))) t u) := by
  refine ⟨fun pins s σ H D I h => ?_⟩
  refine wpAny_If (wpAny_isTrue_Compare1 (thn (he.run pins s σ H _ I h) fun v s1 ⟨y, H1, I1, r1, q1⟩ => ?_) hm)
  refine wpAny_Constant_int ?_
  refine wpAny_mono (PySem.wpAny_toks (ho pins _ σ H1 y (.int k) v (.int k s1.toks) _ (I1.tok (s1.toks + 1)) r1 ⟨_, rfl⟩ q1)) (fun v3 s3 q3 => ?_) fun _ _ z => z.2
  obtain ⟨hk3, y3, H3, I3, r3, b, e3, q3⟩ := q3
  have hk3 : s1.toks + 1 ≤ s3.toks := hk3
  subst e3
  cases r3
  refine wpAny_truthy_bool ?_
  cases b with
  | true => exact ha pins s3 σ H3 D (by omega) I3 q3
  | false => exact hb.run pins s3 σ H3 D I3 q3
/-- a text picked out of a written list -/
theorem pick_u {f g : Addr} {fd gd : FuncData} (T : Txt X.K X.mg) (D1 : Df X.K X.mg "_law_draw" sDraw g gd ["_law_stream", "_law_many"]) (D2 : Df X.K X.mg "_law_pick" sPick f fd ["_law_stream", "_law_some"]) (hr : Room 2 X.A) (hg : Gl X "_law_pick") (hN : X.N[0]? = some ("_law_stream" : Str))
    (hv : Vis X.env.scope ("_law_stream" : Str)) {es : List Expr} {cs : List Str} (hc : CEs es cs) (h1 : 1 ≤ cs.length) (h48 : cs.length ≤ 48) {pins : List (Addr × Obj)} {s : Shared} {σ : L2.St} {H : Hp} {a l : Addr} {n : Nat} (h0 : 1 ≤ s.toks) (I : Inv X pins σ H s) (hσ : σ[0]? = some (some (.ref a))) (S0 : StreamAt H a l n) (hn : n ≤ 20000) {p1 p2 p3 p4 : Pos} :
    wpAny (model X.prog X.w) X.A (eval (.Call (.Name "_law_pick" p1) [.Name "_law_stream" p2, .List es p3] [] p4) X.env) (fun u s' => s.toks ≤ s'.toks ∧ ∃ z t H', u = Value.str z t ∧ t ≠ 0 ∧ z ∈ cs ∧ Inv X pins σ H' s' ∧ StreamAt H' a l (n + 1) ∧ Keep a l H H') X.xe s := by
  have G : FnOk X.prog X.w X.K X.mg X.base CX0 1 g gd ["_law_stream", "_law_many"] spDraw := ok_draw D1.F T
  refine wpAny_mono (PySem.wpAny_toks (wpAny_Call_Name_kw (ld_glob I hg D2.M ?_ (by decide)))) (fun _ _ z => z) fun _ _ z => z.2
  refine PySem.W.callWith_K (h₀ := X.base) I.ok.mod.kin D2.F.kp (thn ((pat_cons (PET.of (pe_var hN hv)) (pat_cons (pet_fz hc (by omega)) pat_nil)) p4 pins s σ H (fun xs H1 => ∃ (q : Addr) (its : List Value), xs = [.ref a, .ref q] ∧ H1 = upd H q (fzl q its) ∧ H q = none ∧ Nz cs its) h0 I ⟨_, hσ, fun q its hq n => ⟨q, its, rfl, rfl, hq, n⟩⟩) fun us s1 hh => ?_) rfl rfl
  obtain ⟨xs, H1, I1, rv, q, its, rfl, rfl, hq, nz⟩ := hh
  refine ⟨I1.kIn, ?_⟩
  have hB := D2.B s1 us I1.kIn (by rw [List.append_nil, ← rv.length]; rfl)
  obtain ⟨oc, od, kV, doc, pm, an, cdv, ct, osl, efd, lk, hcd⟩ := D2.F.ex
  subst efd
  have n1 := new_ (o := fzl q its) hq
  have S1 := S0.same n1
  obtain ⟨qa, ql⟩ := S0.ne hq
  have hlen : its.length = cs.length := nz.1
  refine wpAny_call (codeAny_mono (fn_ofU (CX := CX0) (ps := ["_law_stream", "_law_some"]) (N := ["_law_stream", "_law_some"]) (us := us) (vs := [.ref a, .ref q]) (Q := fun v H' => (∃ z, z ∈ cs ∧ v = V.str z) ∧ StreamAt H' a l (n + 1) ∧ Keep a l H H') (E := E0) (UE := fun u => u ∈ its) (k := 1) (outer := X.stack) (H := upd H q (fzl q its)) lk hcd scPick rfl hr I1.env0 (by simpa using hB) rv fun hr1 s2 I2 => ?_) fun r s' hq => ?_)
  · refine ret_item (X := cxOf CX0 X.prog X.w X.K X.mg X.base ["_law_stream", "_law_some"] "_law_pick" (defScope sPick) f cdv X.A X.stack s1 (upd H q (fzl q its)) E0) (i := 1) (cs := cs) (its := its) (q := q) (Q := fun H' => StreamAt H' a l (n + 1) ∧ Keep a l H H') (pv 1) (pe_call G hr1 rfl D1.M D1.F.kp D1.B .nil pass0 (pa_cons (pv 0) (pa_cons (pe_callB call_lenF (by rfl) T.len_ PySem.boot_len (pa_cons (pv 1) pa_nil)) pa_nil))) (fun _ _ => rfl) I2 rfl nz (by omega) ?_
    refine ⟨_, rfl, _, rfl, q, its, rfl, upd_same, by omega, a, l, n, _, rfl, S1, by omega, by omega, sm48 (by omega) (by omega), fun r H' r0 r1 S2 k2 => ?_⟩
    exact ⟨r.toNat, by rw [Int.toNat_of_nonneg r0], by omega, k2 _ _ qa ql upd_same, S2, (Keep.of n1).trans k2⟩
  · cases r with
    | error e => exact False.elim hq
    | ok fl =>
      cases fl with
      | next => exact False.elim hq
      | brk => exact False.elim hq
      | cont => exact False.elim hq
      | ret u =>
        obtain ⟨hu, ce⟩ := hq
        obtain ⟨v, H', I', rv', ⟨z0, hz0, _⟩, S', k'⟩ := I1.after ce
        obtain ⟨i, hi⟩ := List.mem_iff_getElem?.mp hu
        obtain ⟨z, t, e1, e2, e3⟩ := nz.2 i u hi
        exact ⟨z, t, H', e1, e2, List.mem_of_getElem? e3, I', S', k'⟩
/-- what picking a word and replacing by another does -/
def tRepl : TS := fun D σ H => ∃ (a l : Addr) (n : Nat) (t : Str), σ[0]? = some (some (.ref a)) ∧ σ[1]? = some (some (.str t)) ∧ StreamAt H a l n ∧ n + 1 ≤ 20000 ∧ t.length ≤ 100000 ∧
  ∀ (r : Str) (H' : Hp), r.length ≤ 2 * t.length + 5 → StreamAt H' a l (n + 2) → Keep a l H H' → D.rt (.str r) H'
theorem psst_repl {f g : Addr} {fd gd : FuncData} {i j : Nat} {wd : Str} (T : Txt X.K X.mg) (D1 : Df X.K X.mg "_law_draw" sDraw g gd ["_law_stream", "_law_many"]) (D2 : Df X.K X.mg "_law_pick" sPick f fd ["_law_stream", "_law_some"]) (hr : Room 2 X.A) (hg : Gl X "_law_pick") (hnd : X.N.Nodup) (hN : X.N[0]? = some ("_law_stream" : Str))
    (hv : X.env.scope.names.lookup ("_law_stream" : Str) = some .local) (hN1 : X.N[1]? = some ("_law_text" : Str)) (hv1 : X.env.scope.names.lookup ("_law_text" : Str) = some .local) (hNi : X.N[i]? = some wd) (hvi : X.env.scope.names.lookup wd = some .local) (hwd : (wd == ("__debug__" : Str)) = false)
    (sh : PySem.W.nsIn X.K cStatics sharingNotToldKey = some none) (hi0 : i ≠ 0) (hi1 : i ≠ 1) {es1 es2 : List Expr} {cs1 cs2 : List Str} (hc1 : CEs es1 cs1) (hc2 : CEs es2 cs2) (a1 : 1 ≤ cs1.length) (b1 : cs1.length ≤ 48) (a2 : 1 ≤ cs2.length) (b2 : cs2.length ≤ 48) (h5 : ∀ z ∈ cs2, z.length ≤ 5)
    {p1 p2 p3 p4 p5 p6 q0 q1 q2 q3 q4 q5 q6 q7 q8 q9 : Pos} (hline : (q1.endLine == q8.line) = true)
    (hs : swapsWith (.Call (.Name "_law_pick" p1) [.Name "_law_stream" p2, .List es1 p3] [] p4) (some (.Name wd p5)) p6.line X.env = pure false := by rfl)
    (hbase : attributeBase (.Name "_law_text" q0) "replace" X.env (eval (.Name "_law_text" q0) X.env) = eval (.Name "_law_text" q0) X.env := by rfl)
    (hcls : (X.env.scope.kind == .class || (X.env.scope.kind == .module && X.env.locals != X.env.globals)) = false) :
    PSsT X [.Assign [.Name wd p5] (.Call (.Name "_law_pick" p1) [.Name "_law_stream" p2, .List es1 p3] [] p4) p6,
      .Return (some (.Call (.Attribute (.Name "_law_text" q0) "replace" q1) [.Name wd q2, .Call (.Name "_law_pick" q3) [.Name "_law_stream" q4, .List es2 q5] [] q6, .Constant (.int 1) j q7] [] q8)) q9] tRepl := by
  intro pins s σ H D h0 I h
  obtain ⟨a, l, n, t, e0, e1, S0, hn, ht, kk⟩ := h
  refine wpAny_execs_cons (wpAny_Assign_Name (thn (pick_u T D1 D2 hr hg hN (.inl hv) hc1 a1 b1 h0 I e0 S0 (by omega)) fun u s1 hh => ?_) hs)
  obtain ⟨hk1, z, tz, H1, rfl, htz, hz, I1, S1, k1⟩ := hh
  obtain ⟨m, hm, hl⟩ := id I1.loc
  obtain ⟨oL, _, _, hoL, _⟩ := id hm
  refine wpAny_storeName_local hvi hm (fun h' hn' hsb => ?_) hcls
  have I2 := inv_local (v := V.str z) (t' := s1.toks + 1) I1 hnd hNi hvi ⟨tz, rfl⟩ hl ⟨oL, hoL⟩ hn' hsb
  have e0' : (σ.set i (some (V.str z)))[0]? = some (some (.ref a)) := by rw [List.getElem?_set_ne hi0]; exact e0
  have e1' : (σ.set i (some (V.str z)))[1]? = some (some (.str t)) := by rw [List.getElem?_set_ne hi1]; exact e1
  refine wpAny_execs_cons (wpAny_Return_some ?_)
  refine PySem.wpAny_Call_method_lateS hbase rfl hline (raw_name hN1 (.inl hv1) I2 e1' (fun v r => ?_))
  obtain ⟨tx, rfl⟩ := r
  refine ⟨"str", _, F.plainAttrs_str, F.slot_str_replace, F.type_str_replace, typeIs_str _ _ _, (fun _ e => nomatch e), Calls.callWith_builtin rfl (Calls.evalArgs_plain (Calls.spliced_cons ?_))⟩
  refine wpAny_Name (wpAny_loadName_local I2.ok.kind hvi hn' (if_pos rfl) ?_) hwd
  refine Calls.spliced_cons (thn (pick_u T D1 D2 hr hg hN (.inl hv) hc2 a2 b2 (by show 1 ≤ s1.toks + 1; omega) I2 e0' S1 (by omega)) fun u s3 hh => ?_)
  obtain ⟨hk3, y, ty, H3, rfl, hty, hy, I3, S3, k3⟩ := hh
  show wpAny _ _ (spliced ((false, eval (.Constant (.int 1) j q7) X.env) :: backTo q8 (starEach [] X.env))) _ _ _
  refine Calls.spliced_cons (wpAny_Constant_int ?_)
  refine Calls.spliced_nil ?_
  have hy5 := h5 y hy
  have I4 := I3.tok (s3.toks + 1)
  refine PySem.call_replace4 I4.kIn sh htz hty ht (by omega) fun r t' k hrl => ?_
  exact ⟨.str r, _, _, I4.tok k, ⟨t', rfl⟩, kk r H3 (by omega) S3 (k1.trans k3)⟩
end
end PA

set_option maxHeartbeats 8000000
namespace PA
open PySem L2 RZ
open C8 (pss_cut tCut)
open TC (Lc LOk GoodL verds txt rowS)
theorem boot_max : bootBuiltins "max" = some (.builtin "max") := by decide +kernel
theorem sm13 {z : Int} (h1 : 1 ≤ z) (h2 : z ≤ 8001) : Sm 9000 z := by
  refine sm9000 (n := 13) ?_ (by decide)
  have e : (2 : Nat) ^ 13 = 8192 := by decide
  show z.natAbs < 2 ^ 13
  rw [e]
  omega
def spChanged : Sp := fun vs H Q _ => ∃ (a l : Addr) (n : Nat) (t : Str), vs = [.ref a, .str t] ∧ StreamAt H a l n ∧ n ≤ 15000 ∧ t.length ≤ 3900 ∧
  ∀ (t' : Str) (n' : Nat) (H' : Hp), t'.length ≤ 2 * t.length + 12 → StreamAt H' a l n' → n' ≤ n + 5 → Keep a l H H' → Q (.str t') H'
abbrev NChg : List Str := ["_law_stream", "_law_text", "_law_at", "_law_kind", "_law_sign", "_law_word"]
theorem sign_len {x : Str} : ∀ v ∈ (L2.signs x).map V.str, ∃ z : Str, v = .str z ∧ z.length ≤ 1 := fun v hv => by
  obtain ⟨z, hz, rfl⟩ := List.mem_map.mp hv
  obtain ⟨c, _, rfl⟩ := List.mem_map.mp hz
  exact ⟨_, rfl, Nat.le_refl _⟩
section
variable {P : Program} {w : World} {K : PySem.W.Frag} {mg : Str → Option Value} {base : Heap} {C X PE_ Fo : Addr}
theorem scChg : FnScope NChg ["_law_stream", "_law_text"] (defScope sChanged) := ⟨rfl, rfl, rfl, by decide +kernel, rfl, by decide +kernel, by decide +kernel⟩
theorem ok_changed {f g1 g2 : Addr} {fd gd1 gd2 : FuncData} (F : Fun K "_law_changed" "_law_changed" sChanged f fd) (T : Txt K mg) (sh : PySem.W.nsIn K cStatics sharingNotToldKey = some none) (D1 : Df K mg "_law_draw" sDraw g1 gd1 ["_law_stream", "_law_many"]) (D2 : Df K mg "_law_pick" sPick g2 gd2 ["_law_stream", "_law_some"]) : FnOk P w K mg base CX0 3 f fd ["_law_stream", "_law_text"] spChanged := by
  have G1 : FnOk P w K mg base CX0 1 g1 gd1 ["_law_stream", "_law_many"] spDraw := ok_draw D1.F T
  have G2 : FnOk P w K mg base CX0 2 g2 gd2 ["_law_stream", "_law_some"] spPick := ok_pick D2.F T D1
  refine F.ok scChg (fun vs H Q E h => ?_) (fun cdv A outer s H vs Q E hr h => ?_)
  · obtain ⟨a, l, n, t, rfl, _⟩ := h
    rfl
  · obtain ⟨a, l, n, t, rfl, S0, hn, hl, kk⟩ := h
    have hr1 : Room 1 _ := hr.mono (by decide)
    have hr2 : Room 2 _ := hr.mono (by decide)
    refine ⟨_, pss_cons (ps_par (i := 2) (j := 3) (by rfl) scChg.nd rfl rfl (by decide) rfl rfl (pa_cons (pe_call G1 hr1 rfl D1.M D1.F.kp D1.B .nil pass0 (pa_cons (pv 0) (pa_cons (pe_op op_add (pe_callB call_len_str (by rfl) T.len_ PySem.boot_len (pa_cons (pv 1) pa_nil)) pe_int) pa_nil))) (pa_cons (pe_call G1 hr1 rfl D1.M D1.F.kp D1.B .nil pass0 (pa_cons (pv 0) (pa_cons pe_int pa_nil))) pa_nil)) (by rfl))
      (pss_cut (ps_set (i := 4) scChg.nd rfl (Or.inl rfl) (pe_call G2 hr2 rfl D2.M D2.F.kp D2.B .nil pass0 (pa_cons (pv 0) (pa_cons (pe_op op_cat (pe_callTy (call_list_str (by rfl)) (by rfl) T.list_ boot_list' (pa_cons pe_str pa_nil)) (pe_lst (pa_cons pe_str (pa_cons pe_str pa_nil)))) pa_nil))))
      (pss_cons (ps_if (pt_cmpR op_eq (pv 3) pe_int (nomark _)) (pss_one (ps_ret (pe_op op_add_str (pe_op op_add_str (pe_slice sl_str (pv 1) po_none (po_some (pv 2))) (pv 4)) (pe_slice sl_str (pv 1) (po_some (pv 2)) po_none)))) pss_nil)
      (pss_cons (ps_if (pt_cmpR op_eq (pv 3) pe_int (nomark _)) (pss_one (ps_ret (pe_op op_add_str (pe_slice sl_str (pv 1) po_none (po_some (pv 2))) (pe_slice sl_str (pv 1) (po_some (pe_op op_add (pv 2) pe_int)) po_none)))) pss_nil)
      (pss_cons (ps_if (pt_cmpR op_eq (pv 3) pe_int (nomark _)) (pss_one (ps_ret (pe_op op_add_str (pe_op op_add_str (pe_slice sl_str (pv 1) po_none (po_some (pv 2))) (pv 4)) (pe_slice sl_str (pv 1) (po_some (pe_op op_add (pv 2) pe_int)) po_none)))) pss_nil)
      (pss_cons (ps_if (pt_cmpR op_eq (pv 3) pe_int (nomark _)) (pss_one (ps_ret (pe_op op_add_str (pe_slice sl_str (pv 1) po_none (po_some (pv 2))) (pe_slice sl_str (pv 1) (po_some (pe_callB (call_max2 (by rfl)) (by rfl) T.max_ boot_max (pa_cons pe_int (pa_cons (pe_op op_sub (pv 2) (pe_call G1 hr1 rfl D1.M D1.F.kp D1.B .nil pass0 (pa_cons (pv 0) (pa_cons pe_int pa_nil)))) pa_nil)))) po_none)))) pss_nil)
      (pss_cons (ps_ifT (pv 3) op_eq (psst_repl (i := 5) T D1 D2 hr2 (by rfl) scChg.nd (by rfl) (by rfl) (by rfl) (by rfl) (by rfl) (by rfl) (by rfl) sh (by decide) (by decide) (.cons "last" _ _ (.cons "other" _ _ (.cons "free" _ _ (.cons "none" _ _ .nil)))) (.cons "last" _ _ (.cons "other" _ _ (.cons "free" _ _ (.cons "none" _ _ (.cons "any" _ _ (.cons "Last" _ _ .nil)))))) (by decide) (by decide) (by decide) (by decide) (by decide +kernel) (by rfl) (hcls := by rfl)) pss_nil (nomark _))
      (pss_one (ps_ret (pe_op op_add_str (pv 1) (pe_call G2 hr2 rfl D2.M D2.F.kp D2.B .nil pass0 (pa_cons (pv 0) (pa_cons (pe_lst (pa_cons pe_str (pa_cons pe_str (pa_cons pe_str (pa_cons pe_str (pa_cons pe_str (pa_cons pe_str pa_nil))))))) pa_nil)))))))))))), ?_⟩
    have szl : ∀ {n : Nat}, n ≤ 20000 → n ≤ sizeLine := fun h => Nat.le_trans h (by decide)
    refine ⟨_, rfl, _, rfl, t, rfl, szl (by omega), _, _, rfl, rfl, a, l, n, _, rfl, S0, by omega, by omega, sm13 (by omega) (by omega), fun at_ H1 a0 a1 S1 k1 => ?_⟩
    refine ⟨_, rfl, a, l, n + 1, 6, rfl, S1, by omega, by decide, sm48 (by decide) (by decide), fun kd H2 d0 d1 S2 k2 => ⟨_, _, rfl, ?_⟩⟩
    have k12 := k1.trans k2
    refine ⟨fun σ' H' => ∃ sg : Str, σ' = [some (.ref a), some (.str t), some (.int at_), some (.int kd), some (.str sg), none] ∧ sg.length ≤ 1 ∧ StreamAt H' a l (n + 3) ∧ Keep a l H H', ?_, ?_⟩
    · refine ⟨_, rfl, _, rfl, by decide +kernel, fun q hq => ⟨by show 2 ≤ sizeLine; decide, fun q2 hq2 => ?_⟩⟩
      have s1 := new_ (o := .lst ((L2.signs "0123456789 -;aelnorst").map V.str)) hq
      have s2 := new_ (o := .lst [V.str "\n", V.str "+"]) hq2
      have g1 := s2 _ _ (upd_same (H := H2) (a := q) (o := .lst ((L2.signs "0123456789 -;aelnorst").map V.str)))
      refine ⟨_, _, _, _, rfl, rfl, g1, upd_same, by decide +kernel, fun q3 hq3 => ?_⟩
      have s3 := new_ (o := .lst ((L2.signs "0123456789 -;aelnorst").map V.str ++ [V.str "\n", V.str "+"])) hq3
      have S3 := ((S2.same s1).same s2).same s3
      have hL : (upd (upd (upd H2 q (.lst ((L2.signs "0123456789 -;aelnorst").map V.str))) q2 (.lst [V.str "\n", V.str "+"])) q3 (.lst ((L2.signs "0123456789 -;aelnorst").map V.str ++ [V.str "\n", V.str "+"]))) q3 = some (.lst ((L2.signs "0123456789 -;aelnorst").map V.str ++ [V.str "\n", V.str "+"])) := upd_same
      obtain ⟨Da, Dl⟩ := ((S2.same s1).same s2).ne hq3
      have k3 : Keep a l H _ := k12.trans (Keep.of ((s1.trans s2).trans s3))
      generalize (upd (upd (upd H2 q (.lst ((L2.signs "0123456789 -;aelnorst").map V.str))) q2 (.lst [V.str "\n", V.str "+"])) q3 (.lst ((L2.signs "0123456789 -;aelnorst").map V.str ++ [V.str "\n", V.str "+"]))) = H3 at S3 hL k3 ⊢
      refine ⟨a, l, q3, _, _, rfl, S3, by omega, hL, Da, Dl, by decide +kernel, by decide +kernel, fun i x H4 hx S4 k4 => ?_⟩
      have hm := List.mem_of_getElem? hx
      obtain ⟨z, rfl, hz⟩ : ∃ z : Str, x = .str z ∧ z.length ≤ 1 := by
        rcases List.mem_append.mp hm with hm | hm
        · exact sign_len x hm
        · simp only [List.mem_cons, List.not_mem_nil, or_false] at hm
          rcases hm with rfl | rfl
          · exact ⟨_, rfl, by decide +kernel⟩
          · exact ⟨_, rfl, by decide +kernel⟩
      exact ⟨z, rfl, hz, S4, k3.trans k4⟩
    rintro _ H3 ⟨sg, rfl, hsg, S3, k3⟩
    have c1 : ∀ lo hi, (cutS t lo hi).length ≤ t.length := fun lo hi => cutS_length t lo hi
    refine ⟨_, rfl, rfl, _, rfl, ifD_2 (fun _ => ?_) (fun _ => ?_)⟩
    · refine ⟨_, rfl, _, rfl, _, rfl, t, rfl, szl (by omega), _, rfl, _, _, rfl, rfl, szl ?_, _, rfl, _, rfl, _, rfl, t, rfl, szl (by omega), _, _, rfl, rfl, szl ?_, kk _ _ H3 ?_ S3 (by omega) k3⟩
      · have := c1 none (some at_); omega
      · have := c1 none (some at_); have := c1 (some at_) none; rw [Str.length_append]; omega
      · have := c1 none (some at_); have := c1 (some at_) none; rw [Str.length_append, Str.length_append]; omega
    refine ⟨_, rfl, rfl, _, rfl, ifD_2 (fun _ => ?_) (fun _ => ?_)⟩
    · refine ⟨_, rfl, _, rfl, _, rfl, t, rfl, szl (by omega), _, rfl, _, rfl, _, _, rfl, rfl, _, rfl, t, rfl, szl (by omega), _, _, rfl, rfl, szl ?_, kk _ _ H3 ?_ S3 (by omega) k3⟩
      · have := c1 none (some at_); have := c1 (some (at_ + 1)) none; omega
      · have := c1 none (some at_); have := c1 (some (at_ + 1)) none; rw [Str.length_append]; omega
    refine ⟨_, rfl, rfl, _, rfl, ifD_2 (fun _ => ?_) (fun _ => ?_)⟩
    · refine ⟨_, rfl, _, rfl, _, rfl, t, rfl, szl (by omega), _, rfl, _, _, rfl, rfl, szl ?_, _, rfl, _, rfl, _, _, rfl, rfl, _, rfl, t, rfl, szl (by omega), _, _, rfl, rfl, szl ?_, kk _ _ H3 ?_ S3 (by omega) k3⟩
      · have := c1 none (some at_); omega
      · have := c1 none (some at_); have := c1 (some (at_ + 1)) none; rw [Str.length_append]; omega
      · have := c1 none (some at_); have := c1 (some (at_ + 1)) none; rw [Str.length_append, Str.length_append]; omega
    refine ⟨_, rfl, rfl, _, rfl, ifD_2 (fun _ => ?_) (fun _ => ?_)⟩
    · refine ⟨_, rfl, _, rfl, _, rfl, t, rfl, szl (by omega), _, rfl, _, rfl, _, rfl, a, l, _, 11, rfl, S3, by omega, by decide, sm48 (by decide) (by decide), fun r H4 r0 r1 S4 k4 => ?_⟩
      refine ⟨_, _, rfl, rfl, _, _, rfl, _, rfl, t, rfl, szl (by omega), _, _, rfl, rfl, szl ?_, kk _ _ H4 ?_ S4 (by omega) (k3.trans k4)⟩
      · have := c1 none (some at_); have := cutS_length t (some (if at_ - r > 0 then at_ - r else 0)) none; omega
      · have := c1 none (some at_); have := cutS_length t (some (if at_ - r > 0 then at_ - r else 0)) none; rw [Str.length_append]; omega
    refine ⟨_, rfl, rfl, _, rfl, ifD_2 (fun _ => ?_) (fun _ => ?_)⟩
    · exact ⟨a, l, _, t, rfl, rfl, S3, by omega, by omega, fun r H' hr S' k' => kk _ _ H' (by omega) S' (by omega) (k3.trans k')⟩
    refine ⟨_, rfl, _, rfl, by show 6 ≤ sizeLine; decide, fun q hq => ?_⟩
    have s4 := new_ (o := .lst [V.str "; ", V.str "; 0 0 free", V.str "; 0 0", V.str " ", V.str "\n", V.str ";"]) hq
    obtain ⟨qa, ql⟩ := S3.ne hq
    refine ⟨a, l, q, _, _, rfl, S3.same s4, by omega, upd_same, qa, ql, by decide, by decide, fun i x H4 hx S4 k4 => ?_⟩
    obtain ⟨z, rfl, hz⟩ : ∃ z : Str, x = .str z ∧ z.length ≤ 10 := by
      have hm := List.mem_of_getElem? hx
      simp only [List.mem_cons, List.not_mem_nil, or_false] at hm
      rcases hm with rfl | rfl | rfl | rfl | rfl | rfl <;> exact ⟨_, rfl, by decide +kernel⟩
    refine ⟨_, _, rfl, rfl, szl (by omega), kk _ _ H4 ?_ S4 (by omega) ((k3.trans (Keep.of s4)).trans k4)⟩
    rw [Str.length_append]
    omega
end
end PA

set_option maxHeartbeats 8000000
namespace L2
open PySem PySem.Spec PyProof.Rows
theorem pss_ex {Y : Cx} {ss : List Stmt} {ts : TS} (h : ∀ D σ H, ts D σ H → ∃ t', PSs Y ss t' ∧ t' D σ H) : PSs Y ss ts :=
  ⟨fun pins s σ H D I q => by
    obtain ⟨t', p, q'⟩ := h D σ H q
    exact p.run pins s σ H D I q'⟩
theorem passes_len {X : Cx} {W : WX} {n : Nat} (tk : Takes X W) (hn : X.N.length = n) : Passes (CX X.prog X.w) X (fun cls d H => ∀ σ : L2.St, σ.length = n → W cls d σ H) := by
  intro pins σ H s e s' I h
  obtain ⟨a, B, H', cls, d, h1, h2, h3, h4, h5, h6, h7, h8⟩ := h
  exact passAt tk σ pins H s e s' I ⟨a, B, H', cls, d, h1, h2, h3, h4, h5, h6, h7, h8 σ (I.len.trans hn)⟩
end L2
namespace PA
open PySem L2 RZ
open C8 (pss_cut tCut)
open TC (Lc LOk GoodL verds)
structure TxtE (K : PySem.W.Frag) (mg : Str → Option Value) (X c1 : Addr) : Prop where
  E : ExcC K X
  kx : PySem.W.kitOne K (.ref X) (.ref X) = some true
  g1 : mg "InvalidRows" = some (.ref c1)
  k1 : PySem.W.kitOne K (.ref X) (.ref c1) = some false
def LOf (N : List Addr) (Z : Hp) (H : Hp) (c : Addr) (r : List V) : Prop := H c = some (.lst r) ∧ c ∉ N ∧ Z c = none
def FBad (a l : Addr) (H : Hp) (B : Addr) : Prop := ∃ refs rows, H B = some (.lst refs) ∧ Ea H (TLx [a, l]) refs rows ∧ rows.length ≤ 60 ∧ (∀ r ∈ rows, ∀ x ∈ r, Cell H x) ∧ tabOk rows = false
def FGood (a l : Addr) (ls : List Lc) (Z H : Hp) (B : Addr) : Prop := ∃ refs, H B = some (.lst refs) ∧ Ea H (LOf [a, l, B] Z) refs (ls.map lv)
structure FMid (a l : Addr) (n : Nat) (H0 : Hp) (ls : List Lc) (kd j : Int) (H : Hp) (B : Addr) : Prop where
  na : B ≠ a
  nl : B ≠ l
  nw : H0 B = none
  st : ∃ m : Nat, (m : Int) ≤ n + 2 + 2 * j ∧ StreamAt H a l m
  kp : Keep a l H0 H
  or : (kd < j ∧ FBad a l H B) ∨ (j ≤ kd ∧ FGood a l ls H0 H B)
theorem FMid.next {a l : Addr} {n : Nat} {H0 H : Hp} {ls : List Lc} {kd j : Int} {B : Addr} (m : FMid a l n H0 ls kd j H B) (h : kd ≠ j) : FMid a l n H0 ls kd (j + 1) H B :=
  ⟨m.na, m.nl, m.nw, (by obtain ⟨x, h1, h2⟩ := m.st; exact ⟨x, by omega, h2⟩), m.kp, m.or.imp (fun q => ⟨by omega, q.2⟩) fun q => ⟨by omega, q.2⟩⟩
theorem ea_pick {P : Hp → Addr → List V → Prop} {H : Hp} : ∀ {refs : List V}, (∀ v ∈ refs, ∃ c r, v = .ref c ∧ P H c r) → ∃ rows, Ea H P refs rows
  | [], _ => ⟨[], Ea.nil⟩
  | v :: vs, h => by
    obtain ⟨rows, e⟩ := ea_pick (refs := vs) fun x hx => h x (List.mem_cons_of_mem _ hx)
    obtain ⟨c, r, rfl, q⟩ := h v (by simp)
    exact ⟨r :: rows, (Ea.one q).append e⟩
theorem tab_no {rows : List (List V)} {r : List V} (h : r ∈ rows) (b : rowOk rows.length r = false) : tabOk rows = false := by
  cases hh : tabOk rows with
  | false => rfl
  | true =>
    unfold tabOk at hh
    rw [Bool.and_eq_true, List.all_eq_true] at hh
    rw [hh.2 r h] at b
    cases b
theorem FGood.keep {a l B : Addr} {ls : List Lc} {Z H H' : Hp} (g : FGood a l ls Z H B) (na : B ≠ a) (nl : B ≠ l) (k : Keep a l H H') : FGood a l ls Z H' B := by
  obtain ⟨refs, h1, h2⟩ := g
  exact ⟨refs, k _ _ na nl h1, h2.imp fun c r z => ⟨k _ _ (fun e => z.2.1 (by rw [e]; simp)) (fun e => z.2.1 (by rw [e]; simp)) z.1, z.2⟩⟩
theorem FGood.same {a l B : Addr} {ls : List Lc} {Z H H' : Hp} (g : FGood a l ls Z H B) (s : Same H H') : FGood a l ls Z H' B := by
  obtain ⟨refs, h1, h2⟩ := g
  exact ⟨refs, s _ _ h1, h2.imp fun c r z => ⟨s _ _ z.1, z.2⟩⟩
/-- a row of cells at a list that is not the stream -/
def LCell (a l : Addr) (H : Hp) (c : Addr) (r : List V) : Prop := H c = some (.lst r) ∧ c ∉ [a, l] ∧ ∀ x ∈ r, Cell H x
theorem FBad.of {a l B : Addr} {H : Hp} {refs : List V} {m k : Nat} {q : Addr} {r : List V} (hB : H B = some (.lst refs)) (hm : refs.length = m) (m60 : m ≤ 60) (h : ∀ v ∈ refs, ∃ c r, v = .ref c ∧ LCell a l H c r) (hk : refs[k]? = some (.ref q)) (hq : H q = some (.lst r)) (hr : rowOk m r = false) : FBad a l H B := by
  obtain ⟨rows, e⟩ := ea_pick h
  have hl : rows.length = m := by rw [← e.1, hm]
  refine ⟨refs, rows, hB, e.imp fun c r z => .inr ⟨z.2.1, z.1⟩, by omega, fun r hr x hx => ?_, ?_⟩
  · obtain ⟨i, hi⟩ := List.getElem?_of_mem hr
    obtain ⟨c, _, _, _, z⟩ := e.get hi
    exact z x hx
  · obtain ⟨c, r', e1, e2, z, _⟩ := e.at_ hk
    cases e1
    rw [hq] at z
    cases z
    exact tab_no (List.mem_of_getElem? e2) (by rw [hl]; exact hr)
theorem row_set {n : Nat} {l : Lc} {j : Nat} {x : V} (hj : j < 2) (hx : below n x = false) : rowOk n ((lv l).set j x) = false := by
  rcases j with _ | _ | j
  · show (below n x && (below n (.int (l.2.1 : Int)) && vOk (.str l.2.2))) = false
    rw [hx]; rfl
  · show (below n (.int (l.1 : Int)) && (below n x && vOk (.str l.2.2))) = false
    rw [hx]; simp
  · omega
theorem row_set2 {n : Nat} {l : Lc} {x : V} (hx : vOk x = false) : rowOk n ((lv l).set 2 x) = false := by
  show (below n (.int (l.1 : Int)) && (below n (.int (l.2.1 : Int)) && vOk x)) = false
  rw [hx]; simp
theorem ea_keep {a l B : Addr} {Z H H' : Hp} {refs : List V} {rows : List (List V)} (h : Ea H (LOf [a, l, B] Z) refs rows) (k : Keep a l H H') : Ea H' (LOf [a, l, B] Z) refs rows :=
  h.imp fun c r z => ⟨k _ _ (fun e => z.2.1 (by rw [e]; simp)) (fun e => z.2.1 (by rw [e]; simp)) z.1, z.2⟩
theorem bad_set {a l B c : Addr} {H H7 : Hp} {ls : List Lc} {rB : List V} {k j : Nat} {lk : Lc} {x : V} (kp : Keep a l H H7) (hB : H7 B = some (.lst rB)) (hE : Ea H7 (LOf [a, l, B] H) rB (ls.map lv)) (hck : rB[k]? = some (.ref c)) (hlk : (ls.map lv)[k]? = some (lv lk)) (h48 : ls.length ≤ 48)
    (hx : Cell (upd H7 c (.lst ((lv lk).set j x))) x) (hr : rowOk ls.length ((lv lk).set j x) = false) : H7 c = some (.lst (lv lk)) ∧ c ≠ a ∧ c ≠ l ∧ Keep a l H (upd H7 c (.lst ((lv lk).set j x))) ∧ FBad a l (upd H7 c (.lst ((lv lk).set j x))) B := by
  obtain ⟨c0, hck0, hc, hcn, hcZ⟩ := hE.get hlk
  rw [hck] at hck0
  cases hck0
  have ca : c ≠ a := fun e => hcn (by rw [e]; simp)
  have cl : c ≠ l := fun e => hcn (by rw [e]; simp)
  have cB : c ≠ B := fun e => hcn (by rw [e]; simp)
  refine ⟨hc, ca, cl, fun c' o ca' cl' e => ?_, FBad.of (refs := rB) (m := ls.length) (k := k) (q := c) (r := (lv lk).set j x) (by rw [upd_ne cB.symm]; exact hB) (by rw [hE.1, List.length_map]) (by omega) (fun v' hv' => ?_) hck upd_same hr⟩
  · rw [upd_ne (ne_of_none e hcZ)]
    exact kp _ _ ca' cl' e
  · obtain ⟨i', hi'⟩ := List.getElem?_of_mem hv'
    obtain ⟨c', r', rfl, hr', z1, z2, z3⟩ := hE.at_ hi'
    by_cases ec : c' = c
    · subst ec
      refine ⟨c', _, rfl, upd_same, by simp [ca, cl], fun y hy => ?_⟩
      rcases List.mem_or_eq_of_mem_set hy with hy | hy
      · exact cell_lv y hy
      · rw [hy]
        exact hx
    · refine ⟨c', r', rfl, ?_, fun z => z2 (by simp only [List.mem_cons, List.not_mem_nil, or_false] at z ⊢; rcases z with z | z <;> simp [z]), fun y hy => ?_⟩
      · rw [upd_ne ec]
        exact z1
      · rw [List.getElem?_map, Option.map_eq_some_iff] at hr'
        obtain ⟨l', _, rfl⟩ := hr'
        exact cell_lv y hy
def spFault : Sp := fun vs H Q _ => ∃ (a l L : Addr) (n : Nat) (refs : List V) (ls : List Lc), vs = [.ref a, .ref L] ∧ StreamAt H a l n ∧ n ≤ 2000 ∧ H L = some (.lst refs) ∧ L ≠ a ∧ L ≠ l ∧ Ea H isLn refs ls ∧ GoodL ls ∧
  ∀ (n' : Nat) (H' : Hp), StreamAt H' a l n' → n' ≤ n + 100 → Keep a l H H' → Q (.bl true) H'
abbrev NFlt : List Str := ["_law_stream", "_law_lines", "_law_bad", "_law_kind", "_law_at", "e", "_law_row"]
section
variable {P : Program} {w : World} {K : PySem.W.Frag} {mg : Str → Option Value} {base : Heap} {C X PE_ Fo fI g1 g2 g3 g4 fS s1 r1 c1 : Addr} {dI gd1 gd2 gd3 gd4 dS sd1 rd1 : FuncData}
theorem scFlt : FnScope NFlt ["_law_stream", "_law_lines"] (defScope sFault) := ⟨rfl, rfl, rfl, by decide +kernel, rfl, by decide +kernel, by decide +kernel⟩
theorem ok_fault {f h1 h2 h3 : Addr} {fd hd1 hd2 hd3 : FuncData} (F : Fun K "_law_fault" "_law_fault" sFault f fd) (L : LibR K mg C X PE_ Fo fI g1 g2 g3 g4 fS s1 r1 dI gd1 gd2 gd3 gd4 dS sd1 rd1) (TE : TxtE K mg X c1)
    (D1 : Df K mg "_law_draw" sDraw h1 hd1 ["_law_stream", "_law_many"]) (D2 : Df K mg "_law_pick" sPick h2 hd2 ["_law_stream", "_law_some"]) (D3 : Df K mg "_law_m_handed" sHanded h3 hd3 ["_law_stream", "_law_rows"]) : FnOk P w K mg base CX0 8 f fd ["_law_stream", "_law_lines"] spFault := by
  have T := L.T
  have TX := L.TX
  have G1 : FnOk P w K mg base CX0 1 h1 hd1 ["_law_stream", "_law_many"] spDraw := ok_draw D1.F T
  have G2 : FnOk P w K mg base CX0 2 h2 hd2 ["_law_stream", "_law_some"] spPick := ok_pick D2.F T D1
  have G3 : FnOk P w K mg base CX0 2 h3 hd3 ["_law_stream", "_law_rows"] spHanded := ok_handed D3.F T D1
  have GI : FnOk P w K mg base (L2.CX P w) 5 fI dI ["self", "rows"] (spInit C X) := ok_init L.I T L.TC TX L.D1 L.D2 L.D3 L.D4
  refine F.ok scFlt (fun vs H Q E h => ?_) (fun cdv A outer s H vs Q E hr h => ?_)
  · obtain ⟨a, l, LL, n, _, _, rfl, _⟩ := h
    rfl
  · obtain ⟨a, l, LL, n, refs, ls, rfl, S0, hn, hL, La, Ll, hE, gd, kk⟩ := h
    have hr1 : Room 1 _ := hr.mono (by decide)
    have hr2 : Room 2 _ := hr.mono (by decide)
    refine ⟨_, pss_cut (ps_par (i := 2) (j := 3) (by rfl) scFlt.nd rfl rfl (by decide) rfl rfl (pa_cons (pe_lc (own := [("_law_row", 6)]) (g := gName 6) (tt := tYes) (by rfl) scFlt.nd (pi_list (pv 1)) (blkOk_by (N := NFlt) (sc := defScope sFault) (by decide +kernel))
            (fun _ _ _ _ _ => pg_name (i := 6) scFlt.nd rfl (Or.inl rfl)) (fun _ _ _ _ _ => pts_nil)
            (fun _ _ _ _ _ => pe_callTy (call_listK (K := K) rfl) (by rfl) T.list_ boot_list' (pa_cons (pv 6) pa_nil))) (pa_cons (pe_call G1 hr1 rfl D1.M D1.F.kp D1.B .nil pass0 (pa_cons (pv 0) (pa_cons pe_int pa_nil))) pa_nil)) (by rfl))
      (pss_cons (ps_set (i := 4) scFlt.nd rfl (Or.inl rfl) (pe_call G1 hr1 rfl D1.M D1.F.kp D1.B .nil pass0 (pa_cons (pv 0) (pa_cons (pe_callB call_len_seq (by rfl) T.len_ PySem.boot_len (pa_cons (pv 2) pa_nil)) pa_nil))))
      (pss_cut (ps_if (pt_cmpR op_eq (pv 3) pe_int (nomark _)) (pss_one (ps_set (i := 2) scFlt.nd rfl (Or.inl rfl) (pe_lst pa_nil))) pss_nil)
      (pss_cut (ps_if (pt_cmpR op_eq (pv 3) pe_int (nomark _)) (pss_one (ps_set (i := 2) scFlt.nd rfl (Or.inl rfl) (pe_op op_rep (pe_lst (pa_cons (pe_tup (pa_cons pe_int (pa_cons pe_int (pa_cons pe_str pa_nil)))) pa_nil)) (pe_op op_add pe_int (pe_call G1 hr1 rfl D1.M D1.F.kp D1.B .nil pass0 (pa_cons (pv 0) (pa_cons pe_int pa_nil))))))) pss_nil)
      (pss_cut (ps_if (pt_cmpR op_eq (pv 3) pe_int (nomark _)) (pss_one (ps_asg (pe_slice sl_list (pe_op op_cat (pe_ix ix_list (pv 2) (pv 4) (fun _ _ => rfl)) (pe_lst (pa_cons pe_str pa_nil))) po_none (po_some (pe_ix ix_list (pe_lst (pa_cons pe_int (pa_cons pe_int (pa_cons pe_int (pa_cons pe_int pa_nil))))) (pe_call G1 hr1 rfl D1.M D1.F.kp D1.B .nil pass0 (pa_cons (pv 0) (pa_cons pe_int pa_nil))) (fun _ _ => rfl)))) (pg_sub (pv 2) (pv 4) set_list))) pss_nil)
      (pss_cut (ps_if (pt_cmpR op_eq (pv 3) pe_int (nomark _)) (pss_one (ps_asg (pe_call G2 hr2 rfl D2.M D2.F.kp D2.B .nil pass0 (pa_cons (pv 0) (pa_cons (pe_lst (pa_cons pe_str (pa_cons pe_str (pa_cons pe_str (pa_cons pe_non (pa_cons pe_int (pa_cons pe_bl (pa_cons (pe_tup (pa_cons pe_str pa_nil)) pa_nil)))))))) pa_nil))) (pg_sub (pe_ix ix_list (pv 2) (pv 4) (fun _ _ => rfl)) pe_int set_list))) pss_nil)
      (pss_cut (ps_if (pt_cmpR op_gt (pv 3) pe_int (nomark _)) (pss_one (ps_asg (pe_call G2 hr2 rfl D2.M D2.F.kp D2.B .nil pass0 (pa_cons (pv 0) (pa_cons (pe_lst (pa_cons (pe_callB call_len_seq (by rfl) T.len_ PySem.boot_len (pa_cons (pv 2) pa_nil)) (pa_cons (pe_un un_neg pe_int) (pa_cons pe_bl (pa_cons pe_bl (pa_cons pe_str (pa_cons pe_non (pa_cons (pe_tup (pa_cons pe_int pa_nil)) (pa_cons (pe_op op_pow pe_int pe_int) pa_nil))))))))) pa_nil))) (pg_sub (pe_ix ix_list (pv 2) (pv 4) (fun _ _ => rfl)) (pe_call G1 hr1 rfl D1.M D1.F.kp D1.B .nil pass0 (pa_cons (pv 0) (pa_cons pe_int pa_nil))) set_list))) pss_nil)
      (pss_cons (ps_try_as (i := 5) (tb := fun W => tDrop (tMake C (spInit C X) [] (fun cls d H => ∀ σ : L2.St, σ.length = 7 → W cls d σ H) (tCons (tCall spHanded [] E0 (tCons (tVar 0) (tCons (tVar 2) tNil))) tNil)))
        (ts := fun a cls d D σ H => cls = .ref X ∧ d = none ∧ σ = [σ[0]!, σ[1]!, σ[2]!, σ[3]!, σ[4]!, some (.ref a), σ[6]!] ∧ ∀ H', Same H H' → D.rt (.bl true) H') (Wout := fun _ _ _ _ => False) rfl rfl scFlt.nd rfl rfl ⟨by rfl, by decide, .inl TX.gP⟩ takes0
      (fun W pn xe tk _ => pss_one (ps_expr (by exact (pe_make L.M GI (hr.mono (by decide)) (by rfl) L.TC.mgC L.bI .nil (passes_len tk rfl) (pa_cons (pe_call G3 hr2 (by rfl) D3.M D3.F.kp D3.B .nil pass0 (pa_cons (pv 0) (pa_cons (pv 2) pa_nil))) pa_nil)))))
      (fun a oe cls d pn hz hf => pss_ex fun D σ H q => ?_)) (pss_one (ps_ret pe_bl))))))))), ?_⟩
    · obtain ⟨rfl, rfl, es, k⟩ := q
      refine ⟨_, pss_one (ps_ret (pe_and (pe_callB (call_isE TE.E hz hf) (by rfl) T.isi boot_isi (pa_cons (pv 5) (pa_cons (pe_glob (v := .ref X) rfl TX.g rfl) pa_nil))) (pe_one (pe_not (pe_callB (call_isE TE.E hz hf) (by rfl) T.isi boot_isi (pa_cons (pv 5) (pa_cons (pe_glob (v := .ref c1) rfl TE.g1 rfl) pa_nil))))))), ?_⟩
      rw [es]
      refine ⟨_, rfl, _, _, _, rfl, fun u hu => hu, TE.kx, _, rfl, iteT ?_⟩
      exact ⟨_, rfl, _, _, _, rfl, fun u hu => hu, TE.k1, _, rfl, k _ fun _ _ e => e⟩
    have h1l := gd.one
    have h48 := gd.most
    have hlr : refs.length = ls.length := hE.1
    refine ⟨fun σ' H' => ∃ B kd, σ' = [some (.ref a), some (.ref LL), some (.ref B), some (.int kd), none, none, none] ∧ 0 ≤ kd ∧ kd < 6 ∧ B ≠ a ∧ B ≠ l ∧ H B = none ∧ StreamAt H' a l (n + 1) ∧ Keep a l H H' ∧ FGood a l ls H H' B, ?_, ?_⟩
    · refine ⟨_, rfl, LL, rfl, ⟨_, SqL.of hL⟩, fun Dd hD => ?_⟩
      obtain ⟨Da, Dl⟩ := S0.ne hD
      refine lc_acc (xs := refs) (walk_l (K := K) (a := LL) (xs := refs)) (by rw [hlr]; exact Nat.le_trans h48 (by decide)) hD (fun H' s' => SqL.of (s' _ _ hL)) (fun i acc H' => Ea H' (LOf [a, l, Dd] H) acc ((ls.map lv).take i)) (fun i acc H' e => by rw [e.1, List.length_take, List.length_map]; omega) (by rw [List.take_zero]; exact Ea.nil) (fun i x H' acc Φ Ψ hi hx sm hd he kf => ?_) fun H1 acc s1 hd he => ?_
      · obtain ⟨c, r, rfl, hr', hc⟩ := hE.at_ hx
        refine ⟨rfl, ?_⟩
        dsimp only [tYes]
        rw [if_pos rfl]
        refine ⟨_, rfl, c, _, rfl, .inr (SqT.of (sm _ _ hc)), fun q hq => ?_⟩
        have sq := new_ (o := .lst (lv r)) hq
        have qa : q ≠ a := (ne_of_none (sm _ _ S0.2.choose_spec.choose_spec.choose_spec.1) hq).symm
        have ql : q ≠ l := (ne_of_none (sm _ _ S0.2.choose_spec.choose_spec.choose_spec.2.1) hq).symm
        have qD : q ≠ Dd := (ne_of_none hd hq).symm
        refine kf _ _ sq (sq _ _ hd) fun H5 h5 b1 b2 => ?_
        rw [take_succ' (show (ls.map lv)[i]? = some (lv r) by rw [List.getElem?_map, hr']; rfl)]
        exact Ea.push (he.imp fun c' r' z => ⟨b1 _ _ (fun e => z.2.1 (by rw [e]; simp)) (sq _ _ z.1), z.2⟩) ⟨b1 _ _ qD upd_same, by simp [qa, ql, qD], sm.none hq⟩
      · rw [hlr, List.take_of_length_le (by rw [List.length_map]; exact Nat.le_refl _)] at he
        refine ⟨_, rfl, a, l, n, 6, rfl, S0.same s1, by omega, by decide, sm48 (by decide) (by decide), fun kd H2 d0 d1 S2 k2 => ⟨_, _, rfl, ?_⟩⟩
        refine ⟨Dd, kd, rfl, d0, d1, Da, Dl, hD, S2, (Keep.of s1).trans k2, acc, k2 _ _ Da Dl hd, he.imp fun c r z => ⟨k2 _ _ (fun e => z.2.1 (by rw [e]; simp)) (fun e => z.2.1 (by rw [e]; simp)) z.1, z.2⟩⟩
    rintro _ H1 ⟨B, kd, rfl, d0, d1, Ba, Bl, Bn, S1, k1, gB⟩
    obtain ⟨rB, hB, hEB⟩ := id gB
    have hBl : rB.length = ls.length := by rw [hEB.1, List.length_map]
    refine ⟨_, rfl, _, rfl, B, _, rfl, .inl (SqL.of hB), a, l, n + 1, _, rfl, S1, by omega, by rw [hBl]; omega, sm48 (by rw [hBl]; omega) (by rw [hBl]; omega), fun at_ H2 a0 a1 S2 k2 => ?_⟩
    rw [hBl] at a1
    obtain ⟨k, rfl⟩ : ∃ k : Nat, at_ = (k : Int) := ⟨at_.toNat, (Int.toNat_of_nonneg a0).symm⟩
    have hk : k < ls.length := by omega
    have m0 : FMid a l n H ls kd 0 H2 B := ⟨Ba, Bl, Bn, ⟨n + 2, by omega, S2⟩, k1.trans k2, .inr ⟨d0, gB.keep Ba Bl k2⟩⟩
    clear gB hB hEB hBl rB S1 S2 k1 k2 Ba Bl Bn
    refine ⟨fun σ' H' => ∃ B, σ' = [some (.ref a), some (.ref LL), some (.ref B), some (.int kd), some (.int (k : Int)), none, none] ∧ FMid a l n H ls kd 1 H' B, ?_, ?_⟩
    · refine ⟨_, rfl, rfl, _, rfl, ifD_2 (fun h => ?_) (fun h => ⟨B, rfl, m0.next fun z => h (by rw [z])⟩)⟩
      have hz : kd = 0 := by injection h
      obtain ⟨m, hm, Sm_⟩ := m0.st
      refine ⟨Nat.zero_le _, fun q hq => ⟨q, rfl, ?_⟩⟩
      obtain ⟨qa, ql⟩ := Sm_.ne hq
      exact ⟨qa, ql, keep_noneH m0.kp qa ql hq, ⟨m, by omega, Sm_.same (new_ hq)⟩, m0.kp.trans (Keep.of (new_ hq)), .inl ⟨by omega, [], [], upd_same, Ea.nil, by decide, (fun r hr => by cases hr), rfl⟩⟩
    clear m0
    rintro _ H3 ⟨B, rfl, m1⟩
    refine ⟨fun σ' H' => ∃ B, σ' = [some (.ref a), some (.ref LL), some (.ref B), some (.int kd), some (.int (k : Int)), none, none] ∧ FMid a l n H ls kd 2 H' B, ?_, ?_⟩
    · refine ⟨_, rfl, rfl, _, rfl, ifD_2 (fun h => ?_) (fun h => ⟨B, rfl, m1.next fun z => h (by rw [z])⟩)⟩
      have hz : kd = 1 := by injection h
      have m1g : FGood a l ls H H3 B := by
        rcases m1.or with q | q
        · omega
        · exact q.2
      obtain ⟨m, hm, Sm_⟩ := m1.st
      refine ⟨by show 3 ≤ sizeLine; decide, fun TT hTT => ⟨by show 1 ≤ sizeLine; decide, fun q hq => ?_⟩⟩
      have s1 := new_ (o := .tup [V.int 0, V.int 0, V.str "free"]) hTT
      have s2 := new_ (o := .lst [V.ref TT]) hq
      have gT := s2 _ _ (upd_same (H := H3) (a := TT) (o := .tup [V.int 0, V.int 0, V.str "free"]))
      have gq : (upd (upd H3 TT (.tup [V.int 0, V.int 0, V.str "free"])) q (.lst [V.ref TT])) q = some (.lst [V.ref TT]) := upd_same
      have S3 := (Sm_.same s1).same s2
      have k3 := m1.kp.trans (Keep.of (s1.trans s2))
      obtain ⟨qa, ql⟩ := (Sm_.same s1).ne hq
      generalize (upd (upd H3 TT (.tup [V.int 0, V.int 0, V.str "free"])) q (.lst [V.ref TT])) = H4 at gT gq S3 k3 ⊢
      refine ⟨_, rfl, a, l, m, 2, rfl, S3, by omega, by decide, sm48 (by decide) (by decide), fun r H5 r0 r1 S5 k5 => ?_⟩
      have gq5 := k5 _ _ qa ql gq
      have gT5 : H5 TT = some (.tup [V.int 0, V.int 0, V.str "free"]) := by
        obtain ⟨_, ns', x', z', w1, w2, _⟩ := id S3
        exact k5 _ _ (ne_of gT w1 (by intro z; cases z)) (ne_of gT w2 (by intro z; cases z)) gT
      obtain ⟨c, hc, c49⟩ : ∃ c : Nat, 49 + r = (c : Int) ∧ 49 ≤ c ∧ c ≤ 50 := ⟨(49 + r).toNat, by omega, by omega, by omega⟩
      refine ⟨_, _, rfl, rfl, q, _, _, rfl, congrArg V.int hc, gq5, by omega, by omega, ?_, fun p hp => ?_⟩
      · rw [Int.toNat_natCast]
        show 1 * c ≤ sizeLine
        exact Nat.le_trans (by omega : 1 * c ≤ 50) (by decide)
      rw [Int.toNat_natCast, List.flatten_replicate_singleton]
      obtain ⟨pa, pl⟩ := S5.ne hp
      have sp := new_ (o := .lst (List.replicate c (V.ref TT))) hp
      refine ⟨p, rfl, pa, pl, keep_noneH (k3.trans k5) pa pl hp, ⟨m + 1, by omega, S5.same sp⟩, (k3.trans k5).trans (Keep.of sp), .inl ⟨by omega, _, List.replicate c [V.int 0, V.int 0, V.str "free"], upd_same, ⟨by simp, fun i x r' h1 h2 => ?_⟩, by rw [List.length_replicate]; omega, fun r' hr' x hx => ?_, ?_⟩⟩
      · have e1 := (List.mem_replicate.mp (List.mem_of_getElem? h1)).2
        have e2 := (List.mem_replicate.mp (List.mem_of_getElem? h2)).2
        exact ⟨TT, e1, .inl (by rw [e2]; exact sp _ _ gT5)⟩
      · rw [(List.mem_replicate.mp hr').2] at hx
        simp only [List.mem_cons, List.not_mem_nil, or_false] at hx
        rcases hx with rfl | rfl | rfl
        · exact .int _
        · exact .int _
        · exact .str _
      · unfold tabOk
        rw [List.length_replicate, decide_eq_false (by omega : ¬ c ≤ 48)]
        simp
    clear m1
    rintro _ H4 ⟨B, rfl, m2⟩
    refine ⟨fun σ' H' => ∃ B, σ' = [some (.ref a), some (.ref LL), some (.ref B), some (.int kd), some (.int (k : Int)), none, none] ∧ FMid a l n H ls kd 3 H' B, ?_, ?_⟩
    · refine ⟨_, rfl, rfl, _, rfl, ifD_2 (fun h => ?_) (fun h => ⟨B, rfl, m2.next fun z => h (by rw [z])⟩)⟩
      have hz : kd = 2 := by injection h
      obtain ⟨rB, hB, hEB⟩ : FGood a l ls H H4 B := by
        rcases m2.or with q | q
        · omega
        · exact q.2
      have hBl : rB.length = ls.length := by rw [hEB.1, List.length_map]
      obtain ⟨m, hm, Sm_⟩ := m2.st
      have hlk : (ls.map lv)[k]? = some (lv ls[k]) := by rw [List.getElem?_map, List.getElem?_eq_getElem hk]; rfl
      obtain ⟨c, hck, hc, hcn⟩ := hEB.get hlk
      refine ⟨_, rfl, _, rfl, B, _, _, _, rfl, rfl, SqL.of hB, atI_nat hck, by show 1 ≤ sizeLine; decide, fun q hq => ?_⟩
      have s1 := new_ (o := .lst [V.str "free"]) hq
      refine ⟨_, _, _, _, rfl, rfl, s1 _ _ hc, upd_same, by show 4 ≤ sizeLine; decide, fun q2 hq2 => ?_⟩
      have s2 := new_ (o := .lst (lv ls[k] ++ [V.str "free"])) hq2
      refine ⟨by show 4 ≤ sizeLine; decide, fun q3 hq3 => ?_⟩
      have s3 := new_ (o := .lst [V.int 0, V.int 1, V.int 2, V.int 4]) hq3
      have s13 := (s1.trans s2).trans s3
      have g2 := s3 _ _ (upd_same (H := upd H4 q (.lst [V.str "free"])) (a := q2) (o := .lst (lv ls[k] ++ [V.str "free"])))
      have g3 : (upd (upd (upd H4 q (.lst [V.str "free"])) q2 (.lst (lv ls[k] ++ [V.str "free"]))) q3 (.lst [V.int 0, V.int 1, V.int 2, V.int 4])) q3 = some (.lst [V.int 0, V.int 1, V.int 2, V.int 4]) := upd_same
      have S3 := Sm_.same s13
      have k3 := m2.kp.trans (Keep.of s13)
      obtain ⟨q2a, q2l⟩ := (Sm_.same s1).ne hq2
      obtain ⟨q3a, q3l⟩ := (Sm_.same (s1.trans s2)).ne hq3
      have hB3 := s13 _ _ hB
      have hE3 : Ea _ (LOf [a, l, B] H) rB (ls.map lv) := hEB.imp fun c r z => ⟨s13 _ _ z.1, z.2⟩
      generalize (upd (upd (upd H4 q (.lst [V.str "free"])) q2 (.lst (lv ls[k] ++ [V.str "free"]))) q3 (.lst [V.int 0, V.int 1, V.int 2, V.int 4])) = H5 at g2 g3 S3 k3 hB3 hE3 ⊢
      refine ⟨_, rfl, a, l, m, 4, rfl, S3, by omega, by decide, sm48 (by decide) (by decide), fun r H6 r0 r1 S6 k6 => ?_⟩
      have hB6 := k6 _ _ m2.na m2.nl hB3
      obtain ⟨v, hv, hv2⟩ : ∃ v : Nat, atI [V.int 0, V.int 1, V.int 2, V.int 4] r = some (.int (v : Int)) ∧ ((lv ls[k] ++ [V.str "free"]).take v).length ≠ 3 := by
        have : r = 0 ∨ r = 1 ∨ r = 2 ∨ r = 3 := by omega
        rcases this with rfl | rfl | rfl | rfl
        · exact ⟨0, rfl, by show 0 ≠ 3; decide⟩
        · exact ⟨1, rfl, by show 1 ≠ 3; decide⟩
        · exact ⟨2, rfl, by show 2 ≠ 3; decide⟩
        · exact ⟨4, rfl, by show 4 ≠ 3; decide⟩
      refine ⟨q3, _, _, _, rfl, rfl, SqL.of (k6 _ _ q3a q3l g3), hv, _, rfl, q2, _, rfl, SqL.of (k6 _ _ q2a q2l g2), fun q4 hq4 => ?_⟩
      rw [cut_to]
      have s4 := new_ (o := .lst ((lv ls[k] ++ [V.str "free"]).take v)) hq4
      have hB7 := s4 _ _ hB6
      refine ⟨_, rfl, _, rfl, B, _, _, k, rfl, rfl, hB7, Evl.ixN_nat (by rw [hBl]; exact hk), ?_⟩
      obtain ⟨q4a, q4l⟩ := S6.ne hq4
      have nBq : q4 ≠ B := (ne_of_none hB6 hq4).symm
      have cellT : ∀ H' : Hp, ∀ x ∈ (lv ls[k] ++ [V.str "free"]).take v, Cell H' x := fun H' x hx => by
        have hx := List.mem_of_mem_take hx
        rcases List.mem_append.mp hx with hx | hx
        · exact cell_lv x hx
        · rw [List.mem_singleton.mp hx]
          exact .str _
      refine ⟨B, rfl, m2.na, m2.nl, m2.nw, ⟨m + 1, by omega, (S6.same s4).lst hB7 m2.na m2.nl⟩, ?_, .inl ⟨by omega, FBad.of (m := ls.length) (k := k) (q := q4) (r := (lv ls[k] ++ [V.str "free"]).take v) upd_same (by rw [List.length_set, hBl]) (by omega) (fun v' hv' => ?_) ?_ ?_ (row_len hv2)⟩⟩
      · intro c' o ca cl e
        rw [upd_ne (ne_of_none e m2.nw)]
        exact s4 _ _ (k6 _ _ ca cl (k3 _ _ ca cl e))
      · rcases List.mem_or_eq_of_mem_set hv' with h | h
        · obtain ⟨i, hi⟩ := List.getElem?_of_mem h
          obtain ⟨c', r', rfl, hr', z1, z2⟩ := hE3.at_ hi
          refine ⟨c', r', rfl, ?_, fun z => z2.1 (by simp only [List.mem_cons, List.not_mem_nil, or_false] at z ⊢; rcases z with z | z <;> simp [z]), fun x hx => ?_⟩
          · rw [upd_ne (fun e => z2.1 (by rw [e]; simp))]
            exact s4 _ _ (k6 _ _ (fun e => z2.1 (by rw [e]; simp)) (fun e => z2.1 (by rw [e]; simp)) z1)
          · rw [List.getElem?_map, Option.map_eq_some_iff] at hr'
            obtain ⟨l', _, rfl⟩ := hr'
            exact cell_lv x hx
        · exact ⟨q4, _, h, by rw [upd_ne nBq]; exact upd_same, by simp [q4a, q4l], cellT _⟩
      · rw [List.getElem?_set_self (by rw [hBl]; exact hk)]
      · rw [upd_ne nBq]
        exact upd_same
    clear m2
    rintro _ H5 ⟨B, rfl, m3⟩
    refine ⟨fun σ' H' => ∃ B, σ' = [some (.ref a), some (.ref LL), some (.ref B), some (.int kd), some (.int (k : Int)), none, none] ∧ FMid a l n H ls kd 4 H' B, ?_, ?_⟩
    · refine ⟨_, rfl, rfl, _, rfl, ifD_2 (fun h => ?_) (fun h => ⟨B, rfl, m3.next fun z => h (by rw [z])⟩)⟩
      have hz : kd = 3 := by injection h
      obtain ⟨rB, hB, hEB⟩ : FGood a l ls H H5 B := by
        rcases m3.or with q | q
        · omega
        · exact q.2
      have hBl : rB.length = ls.length := by rw [hEB.1, List.length_map]
      obtain ⟨m, hm, Sm_⟩ := m3.st
      have hlk : (ls.map lv)[k]? = some (lv ls[k]) := by rw [List.getElem?_map, List.getElem?_eq_getElem hk]; rfl
      obtain ⟨c, hck, hc, hcn, hcZ⟩ := hEB.get hlk
      refine ⟨_, rfl, by show 1 ≤ sizeLine; decide, fun TT hTT => ⟨by show 7 ≤ sizeLine; decide, fun q hq => ?_⟩⟩
      have s1 := new_ (o := .tup [V.str "free"]) hTT
      obtain ⟨qa, ql⟩ := (Sm_.same s1).ne hq
      have s2 := new_ (o := .lst [V.str "any", V.str "Free", V.str "", V.non, V.int 0, V.bl true, V.ref TT]) hq
      refine ⟨a, l, q, m, _, rfl, (Sm_.same s1).same s2, by omega, upd_same, qa, ql, by show 1 ≤ 7; decide, by show 7 ≤ 48; decide, fun i x H6 hx S6 k6 => ?_⟩
      have hmx := List.mem_of_getElem? hx
      have gT := s2 _ _ (upd_same (H := H5) (a := TT) (o := .tup [V.str "free"]))
      have S5' := (Sm_.same s1).same s2
      have k56 : Keep a l H5 H6 := (Keep.of (s1.trans s2)).trans k6
      have gT6 : H6 TT = some (.tup [V.str "free"]) := by
        obtain ⟨_, ns', x', z', w1, w2, _⟩ := id S5'
        exact k6 _ _ (ne_of gT w1 (by intro z; cases z)) (ne_of gT w2 (by intro z; cases z)) gT
      have hB6 := k56 _ _ m3.na m3.nl hB
      have hE6 := ea_keep hEB k56
      have hc6 : H6 c = some (.lst (lv ls[k])) := k56 _ _ (fun e => hcn (by rw [e]; simp)) (fun e => hcn (by rw [e]; simp)) hc
      have hx2 : vOk x = false ∧ ∀ H' : Hp, H' TT = some (.tup [V.str "free"]) → Cell H' x := by
        simp only [List.mem_cons, List.not_mem_nil, or_false] at hmx
        rcases hmx with rfl | rfl | rfl | rfl | rfl | rfl | rfl
        · exact ⟨by decide +kernel, fun _ _ => .str _⟩
        · exact ⟨by decide +kernel, fun _ _ => .str _⟩
        · exact ⟨by decide +kernel, fun _ _ => .str _⟩
        · exact ⟨rfl, fun _ _ => .non⟩
        · exact ⟨rfl, fun _ _ => .int _⟩
        · exact ⟨rfl, fun _ _ => .bl _⟩
        · exact ⟨rfl, fun _ h => .ts h (by decide +kernel)⟩
      have gT8 : (upd H6 c (.lst ((lv ls[k]).set 2 x))) TT = some (.tup [V.str "free"]) := by
        rw [upd_ne (ne_of gT6 hc6 (by intro z; cases z))]
        exact gT6
      obtain ⟨_, ca, cl, kp, fb⟩ := bad_set (j := 2) (x := x) (m3.kp.trans k56) hB6 hE6 hck hlk h48 (hx2.2 _ gT8) (row_set2 hx2.1)
      refine ⟨_, rfl, _, rfl, B, _, _, _, rfl, rfl, SqL.of hB6, atI_nat hck, c, _, _, 2, rfl, rfl, hc6, Evl.ixN_nat (by show 2 < 3; decide), ?_⟩
      exact ⟨B, rfl, m3.na, m3.nl, m3.nw, ⟨m + 1, by omega, S6.lst hc6 ca cl⟩, kp, .inl ⟨by omega, fb⟩⟩
    clear m3
    rintro _ H5 ⟨B, rfl, m3⟩
    refine ⟨fun σ' H' => ∃ B m, σ' = [some (.ref a), some (.ref LL), some (.ref B), some (.int kd), some (.int (k : Int)), none, none] ∧ B ≠ a ∧ B ≠ l ∧ m ≤ n + 12 ∧ StreamAt H' a l m ∧ Keep a l H H' ∧ FBad a l H' B, ?_, ?_⟩
    · refine ⟨_, rfl, _, _, rfl, rfl, _, rfl, ifD_2 (fun h => ?_) (fun h => ?_)⟩
      rotate_left
      · obtain ⟨m, hm, Sm_⟩ := m3.st
        rcases m3.or with q | q
        · exact ⟨B, m, rfl, m3.na, m3.nl, by omega, Sm_, m3.kp, q.2⟩
        · omega
      obtain ⟨rB, hB, hEB⟩ : FGood a l ls H H5 B := by
        rcases m3.or with q | q
        · omega
        · exact q.2
      have hBl : rB.length = ls.length := by rw [hEB.1, List.length_map]
      obtain ⟨m, hm, Sm_⟩ := m3.st
      have hlk : (ls.map lv)[k]? = some (lv ls[k]) := by rw [List.getElem?_map, List.getElem?_eq_getElem hk]; rfl
      obtain ⟨c, hck, hc, hcn, hcZ⟩ := hEB.get hlk
      refine ⟨_, rfl, _, rfl, B, _, rfl, .inl (SqL.of hB), _, rfl, by show 1 ≤ sizeLine; decide, fun TT hTT => ⟨10, 20, rfl, rfl, (by show CPow 10 20; unfold CPow; decide), by show 8 ≤ sizeLine; decide, fun q hq => ?_⟩⟩
      have s1 := new_ (o := .tup [V.int 0]) hTT
      obtain ⟨qa, ql⟩ := (Sm_.same s1).ne hq
      refine ⟨a, l, q, m, _, rfl, (Sm_.same s1).same (new_ hq), by omega, upd_same, qa, ql, by show 1 ≤ 8; decide, by show 8 ≤ 48; decide, fun i x H6 hx S6 k6 => ?_⟩
      have hmx := List.mem_of_getElem? hx
      have s2 := new_ (o := .lst [V.int (rB.length : Int), V.int (-1), V.bl true, V.bl false, V.str "0", V.non, V.ref TT, V.int (10 ^ (20 : Int).toNat)]) hq
      have gT := s2 _ _ (upd_same (H := H5) (a := TT) (o := .tup [V.int 0]))
      have S5' := (Sm_.same s1).same s2
      have k56 : Keep a l H5 H6 := (Keep.of (s1.trans s2)).trans k6
      have gT6 : H6 TT = some (.tup [V.int 0]) := by
        obtain ⟨_, ns', x', z', w1, w2, _⟩ := id S5'
        exact k6 _ _ (ne_of gT w1 (by intro z; cases z)) (ne_of gT w2 (by intro z; cases z)) gT
      have hB6 := k56 _ _ m3.na m3.nl hB
      refine ⟨_, rfl, _, rfl, B, _, _, _, rfl, rfl, SqL.of hB6, atI_nat hck, _, rfl, a, l, m + 1, 2, rfl, S6, by omega, by decide, sm48 (by decide) (by decide), fun r H7 r0 r1 S7 k7 => ?_⟩
      have k57 := k56.trans k7
      have hB7 := k57 _ _ m3.na m3.nl hB
      have hE7 := ea_keep hEB k57
      have hc7 : H7 c = some (.lst (lv ls[k])) := k57 _ _ (fun e => hcn (by rw [e]; simp)) (fun e => hcn (by rw [e]; simp)) hc
      have gT7 : H7 TT = some (.tup [V.int 0]) := by
        obtain ⟨_, ns', x', z', w1, w2, _⟩ := id S6
        exact k7 _ _ (ne_of gT6 w1 (by intro z; cases z)) (ne_of gT6 w2 (by intro z; cases z)) gT6
      obtain ⟨j, rfl, hj⟩ : ∃ j : Nat, r = (j : Int) ∧ j < 2 := ⟨r.toNat, by omega, by omega⟩
      have hx2 : below ls.length x = false ∧ ∀ H' : Hp, H' TT = some (.tup [V.int 0]) → Cell H' x := by
        simp only [List.mem_cons, List.not_mem_nil, or_false] at hmx
        rcases hmx with rfl | rfl | rfl | rfl | rfl | rfl | rfl | rfl
        · refine ⟨?_, fun _ _ => .int _⟩
          show (decide ((0 : Int) ≤ (rB.length : Int)) && decide ((rB.length : Int) < (ls.length : Int))) = false
          rw [hBl, decide_eq_false (Int.lt_irrefl _), Bool.and_false]
        · exact ⟨rfl, fun _ _ => .int _⟩
        · exact ⟨rfl, fun _ _ => .bl _⟩
        · exact ⟨rfl, fun _ _ => .bl _⟩
        · exact ⟨rfl, fun _ _ => .str _⟩
        · exact ⟨rfl, fun _ _ => .non⟩
        · exact ⟨rfl, fun _ h => .ti h⟩
        · refine ⟨?_, fun _ _ => .int _⟩
          show (decide ((0 : Int) ≤ 10 ^ (20 : Int).toNat) && decide ((10 : Int) ^ (20 : Int).toNat < (ls.length : Int))) = false
          have e20 : (10 : Int) ^ (20 : Int).toNat = 100000000000000000000 := by decide
          rw [e20, decide_eq_false (by omega : ¬ (100000000000000000000 : Int) < (ls.length : Int)), Bool.and_false]
      have gT8 : (upd H7 c (.lst ((lv ls[k]).set j x))) TT = some (.tup [V.int 0]) := by
        rw [upd_ne (ne_of gT7 hc7 (by intro z; cases z))]
        exact gT7
      obtain ⟨_, ca, cl, kp, fb⟩ := bad_set (j := j) (x := x) (m3.kp.trans k57) hB7 hE7 hck hlk h48 (hx2.2 _ gT8) (row_set hj hx2.1)
      refine ⟨c, _, _, j, rfl, rfl, hc7, Evl.ixN_nat (by show j < 3; omega), ?_⟩
      exact ⟨B, m + 2, rfl, m3.na, m3.nl, by omega, S7.lst hc7 ca cl, kp, fb⟩
    clear m3
    rintro _ H6 ⟨B, m, rfl, Ba, Bl, hm, S6, k6, ⟨refs', rows, hB, hEb, h60, hcl, bad⟩⟩
    refine ⟨_, rfl, _, rfl, a, l, B, m, refs', rows, rfl, S6, by omega, hB, Ba, Bl, hEb, h60, fun G rG n7 H7 hG hEG hGn S7 hn7 k7 => ?_⟩
    have tup67 : ∀ c xs, H6 c = some (.tup xs) → H7 c = some (.tup xs) := fun c xs e => by
      obtain ⟨_, ns', x', z', w1, w2, _⟩ := id S6
      exact k7 _ _ (ne_of e w1 (by intro z; cases z)) (ne_of e w2 (by intro z; cases z)) e
    intro x dx nx ndx nex
    refine mk_rows (C := C) (X := X) hG (hEG.imp fun c r q => q.tl) (by omega) (fun r hr v hv => (hcl r hr v hv).kin tup67) nx ndx nex (fun ok => absurd (bad.symm.trans ok) (by decide)) fun _ H8 s8 σ hσ => ⟨true, TX.e, fun _ a' ha' => ?_, fun q => Bool.noConfusion q⟩
    refine ⟨rfl, rfl, ?_, fun H9 s9 => kk n7 _ ((S7.same s8).same s9) (by omega) ((k6.trans k7).trans (Keep.of (s8.trans s9)))⟩
    match σ, hσ with
    | [y0, y1, y2, y3, y4, y5, y6], _ => rfl
end
end PA

set_option maxHeartbeats 8000000
namespace PA
open PySem L2 RZ
open C8 (pss_cut tCut)
open TC (Lc LOk GoodL verds txt rowS)
open TS (rdW numS)
def nums : List Str := (List.range 48).map numS
theorem nums_in {n : Nat} (h : n < 48) : numS n ∈ nums := List.mem_map.mpr ⟨n, List.mem_range.mpr h, rfl⟩
theorem nums_out {w : Str} (h : w ∈ nums) : ∃ n, n < 48 ∧ w = numS n := by
  obtain ⟨n, hn, rfl⟩ := List.mem_map.mp h
  exact ⟨n, List.mem_range.mp hn, rfl⟩
def vs4 : List Str := ["last", "other", "free", "none"]
theorem vs4_in {v : Str} : v ∈ vs4 ↔ v ∈ verds := by
  unfold vs4 verds
  simp only [List.mem_cons, List.not_mem_nil, or_false]
  constructor
  · rintro (h | h | h | h)
    · exact .inr (.inl h)
    · exact .inr (.inr (.inl h))
    · exact .inr (.inr (.inr h))
    · exact .inl h
  · rintro (h | h | h | h)
    · exact .inr (.inr (.inr h))
    · exact .inl h
    · exact .inr (.inl h)
    · exact .inr (.inr (.inl h))
theorem isTxt_split {t : Str} (h : IsTxt t) : ∃ ls, GoodL ls ∧ PySem.Txt.split t "; " = ls.map rowS := by
  obtain ⟨ls, g, rfl⟩ := h
  exact ⟨ls, g, _root_.TC.split_txt g.ne g.all48⟩
theorem isTxt_words {t pc : Str} (h : IsTxt t) (hp : pc ∈ PySem.Txt.split t "; ") : ∃ a b v, a < 48 ∧ b < 48 ∧ v ∈ verds ∧ PySem.Txt.split pc " " = [numS a, numS b, v] := by
  obtain ⟨ls, g, e⟩ := isTxt_split h
  rw [e] at hp
  obtain ⟨l, hl, rfl⟩ := List.mem_map.mp hp
  have ok := g.all48 l hl
  exact ⟨l.1, l.2.1, l.2.2, ok.1, ok.2.1, ok.2.2, _root_.TC.split_row ok⟩
theorem split_ne (t : Str) : PySem.Txt.split t "; " ≠ [] := fun h => by
  have e : t = txt [] := _root_.TC.txt_back (ls := []) (by rw [h]; rfl)
  rw [e] at h
  revert h
  decide +kernel
theorem isTxt_eq {t : Str} {ls : List Lc} (h : IsTxt t) (e : PySem.Txt.split t "; " = ls.map rowS) (ok : ∀ l ∈ ls, LOk 48 l) : GoodL ls := by
  obtain ⟨ls', g, e'⟩ := isTxt_split h
  rw [e'] at e
  rw [← TS.map_inj_on (fun x hx y hy => _root_.TC.rowS_inj (g.all48 x hx) (ok y hy)) e]
  exact g
def spReading : Sp := fun vs H Q _ => ∃ t : Str, vs = [.str t] ∧ t.length ≤ 8000 ∧ (∀ ls, GoodL ls → t = txt ls → ∀ p refs H', Same H H' → H p = none → H' p = some (.tup refs) → Ea H' isLn refs ls → Q (.ref p) H') ∧ (¬ IsTxt t → ∀ H', Same H H' → Q .non H')
abbrev NRdg : List Str := ["_law_text", "_law_numbers", "_law_found", "_law_piece", "_law_words", "_law_k", "_law_row"]
section
variable {P : Program} {w : World} {K : PySem.W.Frag} {mg : Str → Option Value} {base : Heap} {C X PE_ Fo : Addr}
theorem scRdg : FnScope NRdg ["_law_text"] (defScope sReading) := ⟨rfl, rfl, rfl, by decide +kernel, rfl, by decide +kernel, by decide +kernel⟩
theorem ok_reading {f : Addr} {fd : FuncData} (F : Fun K "_law_reading" "_law_reading" sReading f fd) (T : Txt K mg) : FnOk P w K mg base CX0 1 f fd ["_law_text"] spReading := by
  refine F.ok scRdg (fun vs H Q E h => ?_) (fun cdv A outer s H vs Q E hr h => ?_)
  · obtain ⟨o, rfl, _⟩ := h
    rfl
  · obtain ⟨t, rfl, hl, kg, kb⟩ := h
    refine ⟨_, pss_cons (ps_asg (pe_tup (pa_cons (pe_lc (own := [("_law_k", 5)]) (g := gName 5) (tt := tYes) (by rfl) scRdg.nd (pi_range1 (by rfl) T.range_ (pa_cons pe_int pa_nil)) (blkOk_by (N := NRdg) (sc := defScope sReading) (by decide +kernel))
          (fun _ _ _ _ _ => pg_name (i := 5) scRdg.nd rfl (Or.inl rfl)) (fun _ _ _ _ _ => pts_nil)
          (fun _ _ _ _ _ => pe_callTy call_str_int (by rfl) T.str_ boot_str' (pa_cons (pv 5) pa_nil))) (pa_cons (pe_lst pa_nil) pa_nil))) (pg_tup rfl (pgs_cons (pg_name (i := 1) scRdg.nd rfl (Or.inl rfl)) (pgs_cons (pg_name (i := 2) scRdg.nd rfl (Or.inr rfl)) pgs_nil))))
      (pss_cut (ps_for PassesOwn.never rfl (pi_list (pe_bm PySem.F.plainAttrs_str PySem.F.slot_str_split PySem.F.type_str_split mt_split (pv 0) (pa_cons pe_str pa_nil))) (pg_name (i := 3) scRdg.nd rfl (Or.inl rfl))
        (pss_cons (ps_set (i := 4) scRdg.nd rfl (Or.inl rfl) (pe_bm PySem.F.plainAttrs_str PySem.F.slot_str_split PySem.F.type_str_split mt_split (pv 3) (pa_cons pe_str pa_nil)))
        (pss_cons (ps_if (PW.pt (pw_or (pt_cmpR op_ne (pe_callB call_len_seq (by rfl) T.len_ PySem.boot_len (pa_cons (pv 4) pa_nil)) pe_int (nomark _)) (pw_or (pt_cmpR op_notIn_seq (pe_ix ix_list (pv 4) pe_int (fun _ _ => rfl)) (pv 1) rfl) (pw_or1 (pt_cmpR op_notIn_seq (pe_ix ix_list (pv 4) pe_int (fun _ _ => rfl)) (pv 1) rfl))))) (pss_one (ps_ret pe_non)) pss_nil)
        (pss_cons (ps_if (pt_cmpR op_notIn_seq (pe_ix ix_list (pv 4) pe_int (fun _ _ => rfl)) (pe_tup (pa_cons pe_str (pa_cons pe_str (pa_cons pe_str (pa_cons pe_str pa_nil))))) rfl) (pss_one (ps_ret pe_non)) pss_nil)
        (pss_one (ps_expr (pe_bm PySem.F.plainAttrs_list PySem.F.slot_list_append PySem.F.type_list_append mt_append (pv 2) (pa_cons (pe_tup (pa_cons (pe_callTy call_int_str (by rfl) T.int_ boot_int' (pa_cons (pe_ix ix_list (pv 4) pe_int (fun _ _ => rfl)) pa_nil)) (pa_cons (pe_callTy call_int_str (by rfl) T.int_ boot_int' (pa_cons (pe_ix ix_list (pv 4) pe_int (fun _ _ => rfl)) pa_nil)) (pa_cons (pe_ix ix_list (pv 4) pe_int (fun _ _ => rfl)) pa_nil)))) pa_nil))))))))
      (pss_cons (ps_if (PW.pt (pw_or (pt_cmpR op_gt (pe_callB call_len_seq (by rfl) T.len_ PySem.boot_len (pa_cons (pv 2) pa_nil)) pe_int (nomark _)) (pw_or1 (pt_not (pt_val (pe_callB (cr_all rfl) (by rfl) T.all_ boot_all' (pa_cons (pe_lc (own := [("_law_row", 6)]) (g := gName 6) (tt := tYes) (by rfl) scRdg.nd (pi_list (pv 2)) (blkOk_by (N := NRdg) (sc := defScope sReading) (by decide +kernel))
            (fun _ _ _ _ _ => pg_name (i := 6) scRdg.nd rfl (Or.inl rfl)) (fun _ _ _ _ _ => pts_nil)
            (fun _ _ _ _ _ => pe_and (pe_cmpR op_lt (pe_ix (ix_tupK (K := K) rfl) (pv 6) pe_int (fun _ _ => rfl)) (pe_callB (call_lenK (K := K) rfl) (by rfl) T.len_ PySem.boot_len (pa_cons (pv 2) pa_nil)) (nomark _)) (pe_one (pe_cmpR op_lt (pe_ix (ix_tupK (K := K) rfl) (pv 6) pe_int (fun _ _ => rfl)) (pe_callB (call_lenK (K := K) rfl) (by rfl) T.len_ PySem.boot_len (pa_cons (pv 2) pa_nil)) (nomark _))))) pa_nil))))))) (pss_one (ps_ret pe_non)) pss_nil)
      (pss_one (ps_ret (pe_callTy call_tuple_of (by rfl) T.tup_ boot_tuple' (pa_cons (pv 2) pa_nil)))))), ?_⟩
    refine ⟨48, rfl, by decide, by decide, fun NM hNM => ?_⟩
    refine lc_range (n := 48) (fun i H' => Same H H' ∧ H' NM = some (.lst (tx ((List.range i).map numS)))) ⟨new_ hNM, upd_same⟩ ?_ ?_
    · rintro i H' hi ⟨s', hn⟩
      refine ⟨rfl, ?_⟩
      dsimp only [tYes]
      rw [if_pos rfl]
      refine ⟨_, rfl, (i : Int), by rw [Int.zero_add], ?_, _, hn, ?_, fun c o e => ?_, ?_⟩
      · rw [Int.natAbs_natCast]
        exact Nat.lt_of_le_of_lt (Nat.log2_le_self i) (by omega)
      · rw [List.length_map, List.length_map, List.length_range]
        exact Nat.lt_of_lt_of_le hi (by decide)
      · rw [upd_ne (ne_of_none e hNM)]
        exact s' _ _ e
      · rw [upd_same, List.range_succ, List.map_append, tx, tx, List.map_append]
        rfl
    rintro H1 ⟨s1, hnm⟩
    refine ⟨Nat.zero_le _, fun FD hFD => ⟨by show 2 ≤ sizeLine; decide, fun tp htp => ⟨tp, _, rfl, SqT.of upd_same, rfl, _, _, rfl, _, _, rfl, rfl, ?_⟩⟩⟩
    have sf := new_ (o := .lst []) hFD
    have st := new_ (o := .tup [V.ref NM, V.ref FD]) htp
    have s2 := (s1.trans sf).trans st
    have hnm2 := st _ _ (sf _ _ hnm)
    have hFD0 : H FD = none := s1.none hFD
    have neNF : NM ≠ FD := ne_of_none hnm hFD
    have hfd2 := st _ _ (upd_same (H := H1) (a := FD) (o := .lst []))
    generalize (upd (upd H1 FD (.lst [])) tp (.tup [V.ref NM, V.ref FD])) = H2 at s2 hnm2 hfd2 ⊢
    refine ⟨fun σ' H' => ∃ x3 x4 acc ls, σ' = [some (.str t), some (.ref NM), some (.ref FD), x3, x4, none, none] ∧ Same H H' ∧ H' FD = some (.lst acc) ∧ Ea H' isLn acc ls ∧ PySem.Txt.split t "; " = ls.map rowS ∧ ∀ l ∈ ls, LOk 48 l, ?_, ?_⟩
    · refine ⟨_, rfl, rfl, _, _, rfl, rfl, by decide +kernel, Nat.le_trans (Nat.add_le_add_right hl 2) (by decide), fun q hq => ⟨q, rfl, ⟨_, SqL.of upd_same⟩, ?_⟩⟩
      have sq := new_ (o := .lst ((PySem.Txt.split t "; ").map V.str)) hq
      have hqq : (upd H2 q (.lst ((PySem.Txt.split t "; ").map V.str))) q = some (.lst ((PySem.Txt.split t "; ").map V.str)) := upd_same
      have s3 := s2.trans sq
      have hnm3 := sq _ _ hnm2
      have hfd3 := sq _ _ hfd2
      have neqF : q ≠ FD := (ne_of_none hfd2 hq).symm
      generalize (upd H2 q (.lst ((PySem.Txt.split t "; ").map V.str))) = H3 at s3 hqq hnm3 hfd3 ⊢
      have hps := TS.split_len t "; " (by decide +kernel)
      have hpl : ∀ p ∈ PySem.Txt.split t "; ", p.length ≤ 8000 := fun p hp => Nat.le_trans (TS.part_len hp) hl
      have hbad : ∀ p ∈ PySem.Txt.split t "; ", ¬ (∃ a b v, a < 48 ∧ b < 48 ∧ v ∈ verds ∧ PySem.Txt.split p " " = [numS a, numS b, v]) → ¬ IsTxt t := fun p hp z y => z (isTxt_words y hp)
      generalize hpcs : PySem.Txt.split t "; " = pcs at hqq hps hpl hbad ⊢
      refine for_it (walk_l (xs := tx pcs)) (fun i σ' H' => ∃ x3 x4 acc ls, σ' = [some (.str t), some (.ref NM), some (.ref FD), x3, x4, none, none] ∧ (∀ c o, c ≠ FD → H3 c = some o → H' c = some o) ∧ H' FD = some (.lst acc) ∧ Ea H' isLn acc ls ∧ pcs.take i = ls.map rowS ∧ ∀ l ∈ ls, LOk 48 l) ?_ ?_ ?_ ?_
      · exact ⟨_, _, [], [], rfl, fun _ _ _ e => e, hfd3, Ea.nil, rfl, fun l hl => by cases hl⟩
      · rintro i _ H' _ ⟨_, _, _, _, rfl, kp, _⟩
        exact SqL.of (kp _ _ neqF hqq)
      · rintro i xv _ H6 H' hi ⟨x3, x4, acc, ls, rfl, kp, hfd, he, etk, ok⟩ ⟨rfl, hx⟩
        rw [List.getElem?_map, Option.map_eq_some_iff] at hx
        obtain ⟨pc, hpc, rfl⟩ := hx
        have hmem := List.mem_of_getElem? hpc
        have hpcl := hpl pc hmem
        have hws := TS.split_len pc " " (by decide +kernel)
        have hb := hbad pc hmem
        refine ⟨_, rfl, rfl, _, _, rfl, rfl, by decide +kernel, Nat.le_trans (Nat.add_le_add_right hpcl 2) (by decide), fun u hu => ?_⟩
        have su := new_ (o := .lst ((PySem.Txt.split pc " ").map V.str)) hu
        have huu : (upd H' u (.lst ((PySem.Txt.split pc " ").map V.str))) u = some (.lst ((PySem.Txt.split pc " ").map V.str)) := upd_same
        have hfd4 := su _ _ hfd
        have he4 := he.same su
        have kp4 : ∀ c o, c ≠ FD → H3 c = some o → (upd H' u (.lst ((PySem.Txt.split pc " ").map V.str))) c = some o := fun c o n e => su _ _ (kp c o n e)
        generalize (upd H' u (.lst ((PySem.Txt.split pc " ").map V.str))) = H4 at huu hfd4 he4 kp4 ⊢
        have same4 : ∀ H5, Same H4 H5 → Same H H5 := fun H5 s c o e => s _ _ (kp4 _ _ (ne_of_none e hFD0) (s3 _ _ e))
        have kbad : ¬ (∃ a b v, a < 48 ∧ b < 48 ∧ v ∈ verds ∧ PySem.Txt.split pc " " = [numS a, numS b, v]) → ∀ H5, Same H4 H5 → Q .non H5 := fun z H5 s => kb (hb z) H5 (same4 H5 s)
        generalize hw : PySem.Txt.split pc " " = ws at huu hws kbad ⊢
        have hnm4 := kp4 _ _ neNF hnm3
        refine ⟨_, rfl, u, _, rfl, .inl (SqL.of huu), rfl, _, rfl, ?_⟩
        rw [List.length_map]
        by_cases h3 : ws.length = 3
        rotate_left
        · rw [decide_eq_false (fun z => h3 (by injection z with z; omega))]
          exact iteT (kbad (by rintro ⟨a, b, v, _, _, _, rfl⟩; exact h3 rfl) H4 fun _ _ e => e)
        rw [decide_eq_true (by rw [h3]; rfl)]
        refine iteF ?_
        obtain ⟨wa, wb, wv, rfl⟩ : ∃ a b v, ws = [a, b, v] := by
          match ws, h3 with
          | [a, b, v], _ => exact ⟨a, b, v, rfl⟩
        refine ⟨_, rfl, u, _, 0, _, rfl, rfl, SqL.of huu, rfl, _, rfl, NM, _, rfl, .inl (SqL.of hnm4), rfl, tx_flat _, _, rfl, ?_⟩
        show ite ((!inV (.str wa) (tx nums)) = true) _ _
        rw [inV_tx]
        by_cases ha : wa ∈ nums
        rotate_left
        · rw [decide_eq_false ha]
          exact iteT (kbad (by rintro ⟨a, b, v, h1, h2, h3, e⟩; cases e; exact ha (nums_in h1)) H4 fun _ _ e => e)
        rw [decide_eq_true ha]
        refine iteF ?_
        refine ⟨_, rfl, u, _, 1, _, rfl, rfl, SqL.of huu, rfl, _, rfl, NM, _, rfl, .inl (SqL.of hnm4), rfl, tx_flat _, _, rfl, ?_⟩
        show ite ((!inV (.str wb) (tx nums)) = true) _ _
        rw [inV_tx]
        by_cases hb' : wb ∈ nums
        rotate_left
        · rw [decide_eq_false hb']
          exact iteT (kbad (by rintro ⟨a, b, v, h1, h2, h3, e⟩; cases e; exact hb' (nums_in h2)) H4 fun _ _ e => e)
        rw [decide_eq_true hb']
        refine iteF ?_
        refine ⟨_, rfl, u, _, 2, _, rfl, rfl, SqL.of huu, rfl, by show 4 ≤ sizeLine; decide, fun q4 hq4 => ?_⟩
        have s4 := new_ (o := .tup [V.str "last", V.str "other", V.str "free", V.str "none"]) hq4
        refine ⟨q4, tx vs4, rfl, .inr (SqT.of upd_same), rfl, tx_flat _, _, rfl, ?_⟩
        show ite ((!inV (.str wv) (tx vs4)) = true) _ _
        rw [inV_tx]
        by_cases hv : wv ∈ vs4
        rotate_left
        · rw [decide_eq_false hv]
          exact iteT (kbad (by rintro ⟨a, b, v, h1, h2, h3, e⟩; cases e; exact hv (vs4_in.mpr h3)) _ s4)
        rw [decide_eq_true hv]
        refine iteF ?_
        have huu5 := s4 _ _ huu
        have hfd5 := s4 _ _ hfd4
        have he5 := he4.same s4
        generalize (upd H4 q4 (.tup [V.str "last", V.str "other", V.str "free", V.str "none"])) = H5 at s4 huu5 hfd5 he5 ⊢
        obtain ⟨a, oa, rfl⟩ := nums_out ha
        obtain ⟨b, ob, rfl⟩ := nums_out hb'
        obtain ⟨_, a2, _, _, a5, _⟩ := TS.num_ok oa
        obtain ⟨_, b2, _, _, b5, _⟩ := TS.num_ok ob
        refine ⟨_, rfl, .inl ⟨rfl, _, SqL.of hfd5⟩, _, rfl, u, _, 0, _, rfl, rfl, SqL.of huu5, rfl, numS a, (a : Int), rfl, a5, Nat.le_trans a2 (by decide), _, rfl, u, _, 1, _, rfl, rfl, SqL.of huu5, rfl, numS b, (b : Int), rfl, b5, Nat.le_trans b2 (by decide), _, rfl, u, _, 2, _, rfl, rfl, SqL.of huu5, rfl, by show 3 ≤ sizeLine; decide, fun tp htp => ?_⟩
        have stp := new_ (o := .tup (lv (a, b, wv))) htp
        have hfd8 := stp _ _ hfd5
        have hal : acc.length ≤ 8001 := by
          have q1 := congrArg List.length etk
          rw [List.length_take, List.length_map] at q1
          rw [he.1]
          omega
        refine ⟨FD, _, _, rfl, rfl, hfd8, Nat.lt_of_le_of_lt hal (by decide), ?_⟩
        refine ⟨_, _, acc ++ [.ref tp], ls ++ [(a, b, wv)], rfl, fun c o n e => ?_, upd_same, ?_, ?_, fun l hl => ?_⟩
        · rw [upd_ne n]
          exact stp _ _ (s4 _ _ (kp4 c o n e))
        · exact ((he5.same stp).imp fun c r q => TupOf.lst (f := lv) q hfd8).push (TupOf.lst (f := lv) (r := (a, b, wv)) upd_same hfd8)
        · rw [take_succ' hpc, etk, List.map_append, _root_.TC.row_back hw]
          rfl
        · rcases List.mem_append.mp hl with hl | hl
          · exact ok l hl
          · cases List.mem_singleton.mp hl
            exact ⟨oa, ob, vs4_in.mp hv⟩
      · rintro _ H' ⟨x3, x4, acc, ls, rfl, kp, hfd, he, etk, ok⟩
        rw [List.length_map, List.take_length] at etk
        exact ⟨x3, x4, acc, ls, rfl, fun c o e => kp _ _ (ne_of_none e hFD0) (s3 _ _ e), hfd, he, etk, ok⟩
    rintro _ H8 ⟨x3, x4, acc, ls, rfl, s8, hfd, he, esp, ok⟩
    have hal : acc.length = ls.length := he.1
    have hlen : ls.length ≤ 8001 := by
      have q := TS.split_len t "; " (by decide +kernel)
      rw [esp, List.length_map] at q
      omega
    have hne : ls ≠ [] := fun z => split_ne t (by rw [esp, z]; rfl)
    have big : ∀ {n : Nat}, n ≤ 20000 → n ≤ sizeLine := fun h => Nat.le_trans h (by decide)
    refine ⟨_, rfl, FD, _, rfl, .inl (SqL.of hfd), _, _, rfl, rfl, _, rfl, ifD_2 (fun hgt => iteT ?_) (fun hgt => ?_)⟩
    · refine kb (fun z => ?_) H8 s8
      have := (isTxt_eq z esp ok).most
      rw [hal] at hgt
      omega
    rw [hal] at hgt
    refine ⟨_, rfl, FD, rfl, ⟨_, SqL.of hfd⟩, fun Dd hD => ?_⟩
    refine lc_same (xs := acc) (walk_l (K := K) (a := FD) (xs := acc)) (by rw [hal]; exact big (by omega)) hD (fun H' s' => SqL.of (s' _ _ hfd)) ((ls.map fun l => decide (l.1 < ls.length) && decide (l.2.1 < ls.length)).map V.bl) (by simp [hal]) (fun i x y H' Φ Ψ hx hy sm k => ?_) fun HC sC hdC => ?_
    · obtain ⟨c, l, rfl, hl', hc⟩ := he.at_ hx
      rw [List.getElem?_map, List.getElem?_map, hl'] at hy
      cases hy
      have ed : ∀ m : Nat, decide ((m : Int) < ((acc.length : Nat) : Int)) = decide (m < ls.length) := fun m => by
        rw [hal]
        exact decide_eq_decide.mpr (by omega)
      have hc' := sm _ _ hc
      refine ⟨rfl, ?_⟩
      dsimp only [tYes]
      rw [if_pos rfl]
      refine ⟨_, rfl, c, _, 0, _, rfl, rfl, SqT.of hc', rfl, _, rfl, FD, _, rfl, .inl (SqL.of (sm _ _ hfd)), _, _, rfl, rfl, _, rfl, ?_⟩
      rw [ed]
      have k : Φ (V.bl (decide (l.1 < ls.length) && decide (l.2.1 < ls.length))) H' := k H' fun _ _ e => e
      by_cases h1 : l.1 < ls.length
      · rw [decide_eq_true h1] at k ⊢
        rw [Bool.true_and] at k
        refine iteT ⟨_, rfl, c, _, 1, _, rfl, rfl, SqT.of hc', rfl, _, rfl, FD, _, rfl, .inl (SqL.of (sm _ _ hfd)), _, _, rfl, rfl, ?_⟩
        show Φ (V.bl (decide ((l.2.1 : Int) < ((acc.length : Nat) : Int)))) H'
        rw [ed]
        exact k
      · rw [decide_eq_false h1] at k ⊢
        exact iteF k
    refine ⟨Dd, _, rfl, SqL.of hdC, ?_⟩
    have hiff : ((ls.map fun l => decide (l.1 < ls.length) && decide (l.2.1 < ls.length)).all id = true) ↔ ∀ l ∈ ls, LOk ls.length l := by
      rw [List.all_map, List.all_eq_true]
      constructor
      · intro h l hl
        have q := h l hl
        have q : (decide (l.1 < ls.length) && decide (l.2.1 < ls.length)) = true := q
        rw [Bool.and_eq_true, decide_eq_true_eq, decide_eq_true_eq] at q
        exact ⟨q.1, q.2, (ok l hl).2.2⟩
      · intro h l hl
        show (decide (l.1 < ls.length) && decide (l.2.1 < ls.length)) = true
        rw [decide_eq_true (h l hl).1, decide_eq_true (h l hl).2.1]
        rfl
    cases hall : (ls.map fun l => decide (l.1 < ls.length) && decide (l.2.1 < ls.length)).all id with
    | false =>
      refine ⟨false, rfl, iteT (kb (fun z => ?_) HC (s8.trans sC))⟩
      rw [hiff.mpr (isTxt_eq z esp ok).ok] at hall
      cases hall
    | true =>
    refine ⟨true, rfl, iteF ?_⟩
    have g : GoodL ls := ⟨by
      cases ls with
      | nil => exact absurd rfl hne
      | cons _ _ => simp, by omega, hiff.mp hall⟩
    have hfdC := sC _ _ hfd
    refine ⟨_, rfl, FD, _, rfl, .inl ⟨SqL.of hfdC, fun p hp => ?_⟩⟩
    exact kg ls g (_root_.TC.txt_back esp) p acc _ ((s8.trans sC).trans (new_ hp)) ((s8.trans sC).none hp) upd_same ((he.same sC).same (new_ hp))
end
end PA

set_option maxHeartbeats 4000000
namespace L2
open PySem PySem.Spec PyProof.Rows
/-- a static method, called where an except suite reads the slots -/
def tSMethS (C : Addr) (sp : Sp) (E : St → XK) (ta : TE) (t : TA) : TE := fun σ H Q => ta σ H fun x H1 => x = .ref C ∧ t σ H1 fun vs H2 => sp vs H2 Q (E σ)
theorem pe_smethS {X : Cx} {CX : CXT} {k : Nat} {C p g : Addr} {fd : FuncData} {ps : List Str} {mc : Value} {sp : Sp} {E : St → XK} {o e : PySem.Expr} {es : List PySem.Expr} {m : Str} {pos apos : Pos} {ta : TE} {t : TA} {pl : Sem Bool}
    (ho : PE X o ta) (r : ClX.CRead X.K C mc) (c : SMet X.K C mc m p g) (F : FnOk X.prog X.w X.K X.mg X.base CX k g fd ps sp) (hr : Room k X.A) (kp : PySem.W.keepIn X.K (.ref g) = true) (hb : Binds X.K fd ps []) (hx : ∀ σ, PassesAt CX X σ (E σ)) (ha : PA X (e :: es) t)
    (hs : starEach (e :: es) X.env = (false, eval e X.env) :: starEach es X.env := by rfl) (hpl : ((backTo pos (starEach es X.env)).any fun x => x.fst) = false := by rfl)
    (he : eval ((o.Attribute m apos).Call (e :: es) [] pos) X.env = (do
      let ov ← eval o X.env
      standAt apos.atName
      let __x ← holding [ov] (getMethod ov m pl)
      match __x with
      | (f, first) => callWith pos f first (backTo pos (starEach (e :: es) X.env)) (backToKw pos (keywordEach [] X.env))) := by rfl) :
    PE X ((o.Attribute m apos).Call (e :: es) [] pos) (tSMethS C sp E ta t) := by
  refine ⟨fun pins s σ H Q I h => PySem.W.methodCall_KW (pl := pl) (thn (ho.run pins s σ H _ I h) fun v s1 q => ?_) he⟩
  obtain ⟨x, H1, I1, rx, rfl, q⟩ := q
  cases rx
  refine getmethsm_ok I1 r c fun s2 I2 => ?_
  refine PySem.W.callWith_K I2.ok.mod.kin kp (thn (ha.run pos pins s2 σ H1 _ I2 q) fun us s3 q3 => ?_) hs hpl
  obtain ⟨vs, H3, I3, rv, q3⟩ := q3
  exact ⟨I3.kIn, run_fnS F hr hb (hx σ) I3 rv q3⟩
end L2

set_option maxHeartbeats 8000000
namespace PA
open PySem L2 RZ
open C8 (pss_cut tCut)
open TC (Lc LOk GoodL verds txt rowS)
open TS (numS)
theorem pe_fldF {X : Cx} {K : PySem.W.Frag} (hK : X.K = K) {e : PySem.Expr} {f : Str} {pos : Pos} {ta : TE} (h : PE X e ta) (h2 : attributeBase e f X.env (eval e X.env) = eval e X.env := by rfl) : PE X (e.Attribute f pos) (tFld K ta f) := by
  subst hK
  exact pe_fld h h2
/-! ### data of lines -/
def rd (l : Lc) : PyData := .list [.int (l.1 : Int), .int (l.2.1 : Int), .str l.2.2]
theorem rds_dp {K : PySem.W.Frag} {H : Hp} : ∀ {xs : List V} {ls : List Lc}, Ea H (fun H c r => H c = some (.lst r)) xs (ls.map lv) → DpAll K H xs (ls.map rd)
  | [], [], _ => .nil
  | [], _ :: _, e => by cases e.1
  | _ :: _, [], e => by cases e.1
  | x :: xs, r :: rows, e => by
    obtain ⟨c, hx, q⟩ := e.2 0 x (lv r) rfl rfl
    subst hx
    exact .cons (.lst (SqL.of q) (.cons (.int _) (.cons (.int _) (.cons (.str _) .nil)))) (rds_dp ⟨by have := e.1; simpa using this, fun i y s h1 h2 => e.2 (i + 1) y s (by simpa using h1) (by simpa using h2)⟩)
theorem verds_str : ∀ v ∈ verds, PyData.strOk v = true := by unfold verds; decide +kernel
theorem rds_lay : ∀ rows : List Lc, (∀ l ∈ rows, l.2.2 ∈ verds) → PyData.canLayAll0 (rows.map rd) = true
  | [], _ => by simp [PyData.canLayAll0]
  | r :: rows, h => by
    have h1 := verds_str _ (h r (by simp))
    have h2 := rds_lay rows fun l hl => h l (List.mem_cons_of_mem _ hl)
    simp [PyData.canLayAll0, rd, PyData.canLay0, h1, h2]
theorem rds_depth : ∀ rows : List Lc, PyData.depthAll (rows.map rd) ≤ 4
  | [] => by simp [PyData.depthAll]
  | r :: rows => by
    have h1 := rds_depth rows
    simp only [List.map_cons, PyData.depthAll, rd, PyData.depth]
    omega
theorem rds_shaped (rows : List Lc) (h : ∀ l ∈ rows, l.2.2 ∈ verds) : SeqAt.shaped (.list (rows.map rd)) = true := by
  have h1 := rds_depth rows
  have h2 : PyData.depth (.list (rows.map rd)) ≤ 64 := by
    simp only [PyData.depth]
    omega
  show (PyData.canLay0 (.list (rows.map rd)) && decide (PyData.depth (.list (rows.map rd)) ≤ 64)) = true
  rw [Bool.and_eq_true]
  exact ⟨by simp only [PyData.canLay0]; exact rds_lay rows h, decide_eq_true h2⟩
theorem rds_eqv (rows : List Lc) (h : ∀ l ∈ rows, l.2.2 ∈ verds) : PyData.eqv (.list (rows.map rd)) (.list (rows.map rd)) = true := SeqAt.eqv_refl _ (by simp only [PyData.canLay0]; exact rds_lay rows h)
theorem row_sum (a b v : Str) : a ++ " " ++ b ++ " " ++ v = Str.join " " [a, b, v] := by
  apply TS.cs_inj
  rw [TS.join_two, TS.join_two, Str.join.eq_2]
  simp only [TS.cs_app, List.append_assoc]
/-- lines by their cells -/
theorem ea_map {P : Hp → Addr → Lc → Prop} {P' : Hp → Addr → List V → Prop} {H : Hp} {refs : List V} {ls : List Lc} (e : Ea H P refs ls) (f : ∀ c l, P H c l → P' H c (lv l)) : Ea H P' refs (ls.map lv) :=
  ⟨by rw [List.length_map]; exact e.1, fun i x r h1 h2 => by
    rw [List.getElem?_map, Option.map_eq_some_iff] at h2
    obtain ⟨l, h2, rfl⟩ := h2
    obtain ⟨c, hx, q⟩ := e.2 i x l h1 h2
    exact ⟨c, hx, f c l q⟩⟩
theorem ea_unmap {H : Hp} {refs : List V} {ls : List Lc} (e : Ea H isC refs (ls.map lv)) : Ea H isLn refs ls :=
  ⟨by have := e.1; rwa [List.length_map] at this, fun i x r h1 h2 => e.2 i x (lv r) h1 (by rw [List.getElem?_map, h2]; rfl)⟩
theorem two_ls {K : PySem.W.Frag} {H : Hp} {t1 t2 : Addr} {xs ys : List V} {ls : List Lc} (h1 : H t1 = some (.tup xs)) (h2 : H t2 = some (.tup ys)) (e1 : Ea H isLn xs ls) (e2 : Ea H isLn ys ls) (h48 : ls.length ≤ 48) : Two K H 2 (.ref t1) (.ref t2) := by
  have l1 : xs.length = ls.length := e1.1
  have l2 : ys.length = ls.length := e2.1
  refine .tup (SqT.of h1) (SqT.of h2) (by omega) (by rw [l1]; exact Nat.le_trans h48 (by decide)) fun i x y hx hy => ?_
  obtain ⟨c, l, rfl, hl, hc⟩ := e1.at_ hx
  obtain ⟨c', rfl, hc'⟩ := e2.2 i y l hy hl
  refine .tup (SqT.of hc) (SqT.of hc') rfl (by show 3 ≤ sizeLine; decide) fun j u v hu hv => ?_
  rw [hu] at hv
  cases hv
  have hm := List.mem_of_getElem? hu
  simp only [lv, List.mem_cons, List.not_mem_nil, or_false] at hm
  rcases hm with rfl | rfl | rfl
  · exact .int _ _
  · exact .int _ _
  · exact .str _ _
theorem RowsAt.nl {C : Addr} {H H' : Hp} {p : Addr} {rows : List (List V)} (m : RowsAt C H p rows) (nl : ∀ c o, H c = some o → (∀ xs, o ≠ .lst xs) → H' c = some o) : RowsAt C H' p rows := by
  obtain ⟨dx, T, refs, h1, h2, h3⟩ := m
  exact ⟨dx, T, refs, nl _ _ h1 (by intro xs e; cases e), nl _ _ h2 (by intro xs e; cases e), h3.imp fun c r q => nl _ _ q (by intro xs e; cases e)⟩
/-- how the law stands: the stream, the lines, the row set -/
structure LA (C : Addr) (H : Hp) (sa sl L p : Addr) (refs : List V) (ls : List Lc) (n : Nat) : Prop where
  st : StreamAt H sa sl n
  hL : H L = some (.lst refs)
  eL : Ea H isLn refs ls
  aL : L ≠ sa ∧ L ≠ sl
  rs : RowsAt C H p (ls.map lv)
section
variable {C : Addr} {H H' : Hp} {sa sl L p : Addr} {refs : List V} {ls : List Lc} {n m : Nat}
theorem LA.kept (l : LA C H sa sl L p refs ls n) (S : StreamAt H' sa sl m) (k : Keep sa sl H H') : LA C H' sa sl L p refs ls m :=
  ⟨S, k _ _ l.aL.1 l.aL.2 l.hL, EaKp l.eL l.st k, l.aL, l.rs.nl fun c o e nl => by
    obtain ⟨_, ns', x', z', w1, w2, _⟩ := id l.st
    exact k _ _ (ne_of e w1 (nl _)) (ne_of e w2 (nl _)) e⟩
theorem LA.same (l : LA C H sa sl L p refs ls n) (s : Same H H') : LA C H' sa sl L p refs ls n := l.kept (l.st.same s) (Keep.of s)
theorem LA.lst (l : LA C H sa sl L p refs ls n) {q : Addr} {xs ys : List V} (hq : H q = some (.lst xs)) (qa : q ≠ sa) (ql : q ≠ sl) (qL : q ≠ L) : LA C (upd H q (.lst ys)) sa sl L p refs ls n :=
  ⟨l.st.lst hq qa ql, by rw [upd_ne qL.symm]; exact l.hL, l.eL.imp fun c r z => TupOf.lst (f := lv) z hq, l.aL, l.rs.nl fun c o e nl => by rw [upd_ne (ne_of e hq (nl _))]; exact e⟩
end
theorem iteNo {b : Bool} {P Q : Prop} (hb : b = false) (h : Q) : if b = true then P else Q := by rw [hb]; exact h
/-- a list or a tuple, by its kind -/
def GK (k : _root_.L2.Kind) (H : Hp) (G : Addr) (xs : List V) : Prop := match k with
  | .l => H G = some (.lst xs)
  | .t => H G = some (.tup xs)
theorem GK.sk {K : PySem.W.Frag} {k : _root_.L2.Kind} {H : Hp} {G : Addr} {xs : List V} (h : GK k H G xs) : Sk K k H G xs := by
  cases k
  · exact SqL.of h
  · exact SqT.of h
theorem GK.same {k : _root_.L2.Kind} {H H' : Hp} {G : Addr} {xs : List V} (h : GK k H G xs) (s : Same H H') : GK k H' G xs := by
  cases k
  · exact s _ _ h
  · exact s _ _ h
theorem GK.set {k : _root_.L2.Kind} {H : Hp} {G c : Addr} {xs ys zs : List V} (h : GK k H G xs) (hc : H c = some (.lst ys)) (n : c ≠ G) : GK k (upd H c (.lst zs)) G xs := by
  cases k
  · show _ = _
    rw [upd_ne n.symm]
    exact h
  · show _ = _
    rw [upd_ne (ne_of (show H G = some (.tup xs) from h) hc (by intro z; cases z))]
    exact h
/-- a row that was handed in -/
def RowX (N : List Addr) (H : Hp) (c : Addr) : Prop := (∃ xs, H c = some (.tup xs)) ∨ (c ∉ N ∧ ∃ ys, H c = some (.lst ys) ∧ ys.length = 3)
theorem RowX.set {N : List Addr} {H : Hp} {c q : Addr} {xs ys : List V} (r : RowX N H c) (hq : H q = some (.lst xs)) (hy : ys.length = 3) : RowX N (upd H q (.lst ys)) c := by
  rcases r with ⟨zs, h⟩ | ⟨nn, zs, h, hl⟩
  · exact .inl ⟨zs, by rw [upd_ne (ne_of h hq (by intro z; cases z))]; exact h⟩
  · by_cases e : c = q
    · subst e
      exact .inr ⟨nn, ys, upd_same, hy⟩
    · exact .inr ⟨nn, zs, by rw [upd_ne e]; exact h, hl⟩
structure Prog (K : PySem.W.Frag) (mg : Str → Option Value) (C X PE_ Fo fI g1 g2 g3 g4 fS s1 r1 c1 fR pR fDraw fStart fPick fSame fHand fLines fRdg fChg fFlt : Addr) (mc : Value) (dI gd1 gd2 gd3 gd4 dS sd1 rd1 dR dDraw dStart dPick dSame dHand dLines dRdg dChg dFlt : FuncData) : Prop where
  L : LibR K mg C X PE_ Fo fI g1 g2 g3 g4 fS s1 r1 dI gd1 gd2 gd3 gd4 dS sd1 rd1
  TE : TxtE K mg X c1
  FR : Fun K "read" "Claim.read" sRead fR dR
  bR : Binds K dR ["text"] []
  sh : PySem.W.nsIn K cStatics sharingNotToldKey = some none
  cr : ClX.CRead K C mc
  sm : SMet K C mc "read" pR fR
  draw : Df K mg "_law_draw" sDraw fDraw dDraw ["_law_stream", "_law_many"]
  start : Df K mg "_law_start" sStart fStart dStart ["_law_script"]
  pick : Df K mg "_law_pick" sPick fPick dPick ["_law_stream", "_law_some"]
  same : Df K mg "_law_same" sSame fSame dSame ["_law_found", "_law_due"]
  hand : Df K mg "_law_m_handed" sHanded fHand dHand ["_law_stream", "_law_rows"]
  lines : Df K mg "_law_m_claim" sClaim fLines dLines ["_law_stream", "_law_most"]
  rdg : Df K mg "_law_reading" sReading fRdg dRdg ["_law_text"]
  chg : Df K mg "_law_changed" sChanged fChg dChg ["_law_stream", "_law_text"]
  flt : Df K mg "_law_fault" sFault fFlt dFlt ["_law_stream", "_law_lines"]
def spLaw (K : PySem.W.Frag) : Sp := fun vs H Q _ => ∃ (a : Addr) (ns : List Int), vs = [.ref a] ∧ SqL K H a (ns.map V.int) ∧ ns.length ≤ 63 ∧ ∀ H', Q (.bl true) H'
abbrev NLw : List Str := ["_law_script", "_law_stream", "_law_lines", "_law_given", "_law_before", "_law_made", "_law_row", "_law_due", "_law_text", "_law_turn", "_law_other", "_law_k", "_law_found", "_law_low", "_law_high", "_law_word"]
section
variable {P : Program} {w : World} {K : PySem.W.Frag} {mg : Str → Option Value} {base : Heap}
theorem scLaw : FnScope NLw ["_law_script"] (defScope sLaw) := ⟨rfl, rfl, rfl, by decide +kernel, rfl, by decide +kernel, by decide +kernel⟩
theorem ok_law {f C X PE_ Fo fI g1 g2 g3 g4 fS s1 r1 c1 fR pR fDraw fStart fPick fSame fHand fLines fRdg fChg fFlt : Addr} {mc : Value} {fd dI gd1 gd2 gd3 gd4 dS sd1 rd1 dR dDraw dStart dPick dSame dHand dLines dRdg dChg dFlt : FuncData} (F : Fun K "law" "law" sLaw f fd)
    (G : Prog K mg C X PE_ Fo fI g1 g2 g3 g4 fS s1 r1 c1 fR pR fDraw fStart fPick fSame fHand fLines fRdg fChg fFlt mc dI gd1 gd2 gd3 gd4 dS sd1 rd1 dR dDraw dStart dPick dSame dHand dLines dRdg dChg dFlt) : FnOk P w K mg base CX0 9 f fd ["_law_script"] (spLaw K) := by
  have L := G.L
  have T := L.T
  have TX := L.TX
  have TC := L.TC
  have GI : FnOk P w K mg base (L2.CX P w) 5 fI dI ["self", "rows"] (spInit C X) := ok_init L.I T TC TX L.D1 L.D2 L.D3 L.D4
  have GS : FnOk P w K mg base CX0 2 fS dS ["self"] (spStr C) := ok_str L.FS T TC
  have GR : FnOk P w K mg base (L2.CX P w) 7 fR dR ["text"] (spRead C X) := ok_read G.FR L
  have GDraw : FnOk P w K mg base CX0 1 fDraw dDraw ["_law_stream", "_law_many"] spDraw := ok_draw G.draw.F T
  have GStart : FnOk P w K mg base CX0 1 fStart dStart ["_law_script"] (spStart K) := ok_start G.start.F T
  have GSame : FnOk P w K mg base CX0 3 fSame dSame ["_law_found", "_law_due"] (spSame K 2) := ok_same G.same T 2
  have GHand : FnOk P w K mg base CX0 2 fHand dHand ["_law_stream", "_law_rows"] spHanded := ok_handed G.hand.F T G.draw
  have GLines : FnOk P w K mg base CX0 3 fLines dLines ["_law_stream", "_law_most"] spLines := ok_claim G.lines.F T G.draw G.pick
  have GRdg : FnOk P w K mg base CX0 1 fRdg dRdg ["_law_text"] spReading := ok_reading G.rdg.F T
  have GChg : FnOk P w K mg base CX0 3 fChg dChg ["_law_stream", "_law_text"] spChanged := ok_changed G.chg.F T G.sh G.draw G.pick
  have GFlt : FnOk P w K mg base CX0 8 fFlt dFlt ["_law_stream", "_law_lines"] spFault := ok_fault G.flt.F L G.TE G.draw G.pick G.hand
  refine F.ok scLaw (fun vs H Q E h => ?_) (fun cdv A outer s H vs Q E hr h => ?_)
  · obtain ⟨a, ns, rfl, _⟩ := h
    rfl
  · obtain ⟨a, ns, rfl, hS, hlen, kk⟩ := h
    have hr1 : Room 1 _ := hr.mono (by decide)
    have hr2 : Room 2 _ := hr.mono (by decide)
    have hr3 : Room 3 _ := hr.mono (by decide)
    have hr4 : Room 4 _ := hr.mono (by decide)
    have hr6 : Room 6 _ := hr.mono (by decide)
    have hr7 : Room 7 _ := hr.mono (by decide)
    refine ⟨_, pss_cons (ps_set (i := 1) scLaw.nd rfl (Or.inl rfl) (pe_call GStart hr1 rfl G.start.M G.start.F.kp G.start.B .nil pass0 (pa_cons (pv 0) pa_nil)))
      (pss_cons (ps_set (i := 2) scLaw.nd rfl (Or.inl rfl) (pe_call GLines hr3 rfl G.lines.M G.lines.F.kp G.lines.B .nil pass0 (pa_cons (pv 1) (pa_cons (pe_ix ix_list (pe_lst (pa_cons pe_int (pa_cons pe_int (pa_cons pe_int pa_nil)))) (pe_call GDraw hr1 rfl G.draw.M G.draw.F.kp G.draw.B .nil pass0 (pa_cons (pv 1) (pa_cons pe_int pa_nil))) (fun _ _ => rfl)) pa_nil))))
      (pss_cons (ps_set (i := 3) scLaw.nd rfl (Or.inl rfl) (pe_call GHand hr2 rfl G.hand.M G.hand.F.kp G.hand.B .nil pass0 (pa_cons (pv 1) (pa_cons (pv 2) pa_nil))))
      (pss_cons (ps_setLc (i := 4) (own := [("_law_row", 6)]) (g := gName 6) (tt := tYes) (by rfl) scLaw.nd rfl rfl (sw_true rfl rfl rfl (by decide +kernel)) (pi_sq (pv 3)) (blkOk_by (N := NLw) (sc := defScope sLaw) (by decide +kernel))
          (fun _ _ _ _ _ => pg_name (i := 6) scLaw.nd rfl (Or.inl rfl)) (fun _ _ _ _ _ => pts_nil)
          (fun _ _ _ _ _ => pe_callTy (call_listK (K := K) rfl) (by rfl) T.list_ boot_list' (pa_cons (pv 6) pa_nil)))
      (pss_cons (ps_set (i := 5) scLaw.nd rfl (Or.inl rfl) (pe_make (E := E0) L.M GI hr6 rfl TC.mgC L.bI .nil passL (pa_cons (pv 3) pa_nil)))
      (pss_cut (ps_if (pt_cmpR (op_neD hr.units) (pe_lc (own := [("_law_row", 6)]) (g := gName 6) (tt := tYes) (by rfl) scLaw.nd (pi_sq (pv 3)) (blkOk_by (N := NLw) (sc := defScope sLaw) (by decide +kernel))
          (fun _ _ _ _ _ => pg_name (i := 6) scLaw.nd rfl (Or.inl rfl)) (fun _ _ _ _ _ => pts_nil)
          (fun _ _ _ _ _ => pe_callTy (call_listK (K := K) rfl) (by rfl) T.list_ boot_list' (pa_cons (pv 6) pa_nil))) (pv 4) (nomark _)) pss_never pss_nil)
      (pss_cut (ps_for PassesOwn.never rfl (pi_sq (pv 3)) (pg_name (i := 6) scLaw.nd rfl (Or.inl rfl))
        (pss_one (ps_if (pt_val (pe_callB call_isi (by rfl) T.isi boot_isi (pa_cons (pv 6) (pa_cons (pe_bltn (v := .ty "list") (by rfl) T.list_ boot_list' rfl) pa_nil)))) (pss_cons (ps_asg pe_str (pg_sub (pv 6) pe_int set_list)) (pss_one (ps_asg pe_int (pg_sub (pv 6) pe_int set_list)))) pss_nil)))
      (pss_cons (ps_set (i := 7) scLaw.nd rfl (Or.inl rfl) (pe_callTy call_tuple_of (by rfl) T.tup_ boot_tuple' (pa_cons (pv 2) pa_nil)))
      (pss_cons (ps_set (i := 8) scLaw.nd rfl (Or.inl rfl) (pe_join pe_str (pe_lc (own := [("_law_low", 13), ("_law_high", 14), ("_law_word", 15)]) (g := gTup K 3 (gCons (gName 13) (gCons (gName 14) (gCons (gName 15) gNil)))) (tt := tYes) (by rfl) scLaw.nd (pi_list (pv 2)) (blkOk_by (N := NLw) (sc := defScope sLaw) (by decide +kernel))
          (fun _ _ _ _ _ => by exact pg_tup rfl (pgs_cons (pg_name (i := 13) scLaw.nd rfl (Or.inl rfl)) (pgs_cons (pg_name (i := 14) scLaw.nd rfl (Or.inl rfl)) (pgs_cons (pg_name (i := 15) scLaw.nd rfl (Or.inl rfl)) pgs_nil)))) (fun _ _ _ _ _ => pts_nil)
          (fun _ _ _ _ _ => pe_op op_add_str (pe_op op_add_str (pe_op op_add_str (pe_op op_add_str (pe_callTy call_str_int (by rfl) T.str_ boot_str' (pa_cons (pv 13) pa_nil)) pe_str) (pe_callTy call_str_int (by rfl) T.str_ boot_str' (pa_cons (pv 14) pa_nil))) pe_str) (pv 15)))))
      (pss_cut (ps_if (PW.pt (pw_or (pt_not (pt_val (pe_call GSame hr3 rfl G.same.M G.same.F.kp G.same.B .nil pass0 (pa_cons (pe_fld (pv 5) rfl) (pa_cons (pv 7) pa_nil))))) (pw_or1 (pt_cmpR op_ne (pe_callTy (call_strOwn (E := E0) L.mS.at_ L.mS.fn GS hr4 L.bS pass0) (by rfl) T.str_ boot_str' (pa_cons (pv 5) pa_nil)) (pv 8) (nomark _))))) pss_never pss_nil)
      (pss_cut (ps_if (PW.pt (pw_or (pt_not (pt_val (pe_call GSame hr3 rfl G.same.M G.same.F.kp G.same.B .nil pass0 (pa_cons (pe_fld (pe_smeth (E := E0) (pl := _) (pe_glob (v := .ref C) rfl TC.mgC rfl) G.cr G.sm GR hr7 G.FR.kp G.bR passL (pa_cons (pv 8) pa_nil)) rfl) (pa_cons (pv 7) pa_nil))))) (pw_or1 (pt_not (pt_val (pe_call GFlt hr rfl G.flt.M G.flt.F.kp G.flt.B .nil pass0 (pa_cons (pv 1) (pa_cons (pv 2) pa_nil)))))))) pss_never pss_nil)
      (pss_cut (ps_for PassesOwn.never rfl (pi_range1 (by rfl) T.range_ (pa_cons pe_int pa_nil)) (pg_name (i := 9) scLaw.nd rfl (Or.inl rfl))
        (pss_cons (ps_set (i := 10) scLaw.nd rfl (Or.inl rfl) (pv 8))
        (pss_cut (ps_for PassesOwn.never rfl (pi_range1 (by rfl) T.range_ (pa_cons (pe_op op_add pe_int (pe_call GDraw hr1 rfl G.draw.M G.draw.F.kp G.draw.B .nil pass0 (pa_cons (pv 1) (pa_cons pe_int pa_nil)))) pa_nil)) (pg_name (i := 11) scLaw.nd rfl (Or.inl rfl))
          (pss_one (ps_set (i := 10) scLaw.nd rfl (Or.inl rfl) (pe_call GChg hr3 rfl G.chg.M G.chg.F.kp G.chg.B .nil pass0 (pa_cons (pv 1) (pa_cons (pv 10) pa_nil))))))
        (pss_cut (ps_try_only (Wout := fun _ _ _ _ => False) rfl rfl ⟨by rfl, by decide, .inl TX.g⟩ takes0
            (fun W pn xe tk _ => pss_one (ps_set (i := 12) scLaw.nd rfl (Or.inl rfl) (pe_fldF (K := K) rfl (pe_smethS (E := WE W) (pl := _) (pe_glob (v := .ref C) rfl TC.mgC rfl) G.cr G.sm GR hr7 G.FR.kp G.bR (fun σ => passAt tk σ) (pa_cons (pv 10) pa_nil)) rfl)))
            (fun a oe cls d pn hz hf => pss_one (ps_set (i := 12) scLaw.nd rfl (Or.inl rfl) pe_non)))
        (pss_cons (ps_set (i := 7) scLaw.nd rfl (Or.inl rfl) (pe_call GRdg hr1 rfl G.rdg.M G.rdg.F.kp G.rdg.B .nil pass0 (pa_cons (pv 10) pa_nil)))
        (pss_one (ps_if (PW.pt (pw_or (PW.pt (pw_and (pt_cmpR op_isN (pv 7) pe_non (nomark _)) (pw_and1 (pt_cmpR op_notN (pv 12) pe_non (nomark _))))) (pw_or1 (PW.pt (pw_and (pt_cmpR op_notN (pv 7) pe_non (nomark _)) (pw_and1 (pt_not (pt_val (pe_call GSame hr3 rfl G.same.M G.same.F.kp G.same.B .nil pass0 (pa_cons (pv 12) (pa_cons (pv 7) pa_nil))))))))))) pss_never pss_nil)))))))
      (pss_one (ps_ret (pe_cmpR op_eq (pe_callTy (call_strOwn (E := E0) L.mS.at_ L.mS.fn GS hr4 L.bS pass0) (by rfl) T.str_ boot_str' (pa_cons (pv 5) pa_nil)) (pv 8) (nomark _))))))))))))))), ?_⟩
    refine ⟨_, rfl, a, ns, rfl, hS, hlen, fun sa sl H1 S1 _ _ _ => ?_⟩
    refine ⟨_, rfl, by show 3 ≤ sizeLine; decide, fun q hq => ⟨_, rfl, sa, sl, 0, 3, rfl, S1.same (new_ hq), by decide, by decide, sm48 (by decide) (by decide), fun r H2 r0 r1 S2 k2 => ?_⟩⟩
    obtain ⟨qa, ql⟩ := S1.ne hq
    obtain ⟨mo, hmo, mo1, mo48⟩ : ∃ m : Int, atI [V.int 4, V.int 12, V.int 48] r = some (.int m) ∧ 1 ≤ m ∧ m ≤ 48 := by
      have : r = 0 ∨ r = 1 ∨ r = 2 := by omega
      rcases this with rfl | rfl | rfl
      · exact ⟨4, rfl, by decide, by decide⟩
      · exact ⟨12, rfl, by decide, by decide⟩
      · exact ⟨48, rfl, by decide, by decide⟩
    refine ⟨q, _, r, _, rfl, rfl, SqL.of (k2 _ _ qa ql upd_same), hmo, sa, sl, 1, mo, rfl, S2, by decide, mo1, mo48, fun LL refs ls n3 H3 hL hL0 La Ll hE gd S3 hn3 k3 => ?_⟩
    have h48 := gd.most
    have hvd : ∀ l ∈ ls, l.2.2 ∈ verds := fun l hl => (gd.ok l hl).2.2
    refine ⟨_, rfl, _, rfl, sa, sl, LL, n3, refs, ls.map lv, rfl, S3, by omega, hL, La, Ll, ea_map hE fun c l z => .inl z, by rw [List.length_map]; omega, fun GV rG n4 H4 hG hEG hGn S4 hn4 k4 => ?_⟩
    have hL4 := k4 _ _ La Ll hL
    have hE4 := EaKp hE S3 k4
    have hrG : rG.length = ls.length := by rw [hEG.1, List.length_map]
    obtain ⟨kG, hkG⟩ : ∃ k, GK k H4 GV rG := by
      rcases hG with hG | hG
      · exact ⟨.l, hG⟩
      · exact ⟨.t, hG⟩
    have LGn : LL ≠ GV := ne_of_none hL hGn
    obtain ⟨Ga, Gl_⟩ := S3.ne hGn
    -- the copies
    refine ⟨kG, _, rfl, GV, rfl, ⟨_, hkG.sk⟩, fun BF hBF => ?_⟩
    refine lc_acc (xs := rG) (walk_k (k := kG)) (by rw [hrG]; exact Nat.le_trans h48 (by decide)) hBF (fun H' s' => (hkG.same s').sk) (fun i acc H' => Ea H' (fun H c r => H c = some (.lst r) ∧ c ≠ BF) acc ((ls.map lv).take i)) (fun i acc H' e => by rw [e.1, List.length_take, List.length_map]; omega) (by rw [List.take_zero]; exact Ea.nil) (fun i x H' acc Φ Ψ hi hx sm hd he kf => ?_) fun H5 accB s5 hdB heB => ?_
    · obtain ⟨c, r, rfl, hr', hc⟩ := hEG.at_ hx
      refine ⟨rfl, ?_⟩
      dsimp only [tYes]
      rw [if_pos rfl]
      have hc' : SqL K H' c r ∨ SqT K H' c r := by
        rcases hc with hc | ⟨_, hc⟩
        · exact .inr (SqT.of (sm _ _ hc))
        · exact .inl (SqL.of (sm _ _ hc))
      refine ⟨_, rfl, c, _, rfl, hc', fun q hq => ?_⟩
      have sq := new_ (o := .lst r) hq
      have qB : q ≠ BF := (ne_of_none hd hq).symm
      refine kf _ _ sq (sq _ _ hd) fun H5 h5 b1 b2 => ?_
      rw [take_succ' hr']
      exact Ea.push (he.imp fun c' r' z => ⟨b1 _ _ z.2 (sq _ _ z.1), z.2⟩) ⟨b1 _ _ qB upd_same, qB⟩
    rw [hrG, List.take_of_length_le (by rw [List.length_map]; exact Nat.le_refl _)] at heB
    have hG5 := hG.imp (fun q => s5 _ _ q) (fun q => s5 _ _ q)
    have hEG5 : Ea H5 (TLx [sa, sl, LL, GV]) rG (ls.map lv) := hEG.imp fun c r z => z.same s5
    -- the row set
    refine ⟨_, rfl, fun p dx nx ndx nex => mk_rows (C := C) (X := X) hG5 (hEG5.imp fun c r z => z.tl) (by rw [List.length_map]; omega) (fun r hr x hx => ?_) nx ndx nex (fun ok H6 s6 rs6 => ⟨rfl, ?_⟩) fun bad => absurd (bad.symm.trans (tab_lv.mpr gd)) (by decide)⟩
    · obtain ⟨l, _, rfl⟩ := List.mem_map.mp hr
      exact cell_lv x hx
    have s46 := s5.trans s6
    have la : LA C H6 sa sl LL p refs ls n4 := ⟨S4.same s46, s46 _ _ hL4, hE4.same s46, ⟨La, Ll⟩, rs6⟩
    have hk6 := (hkG.same s5).same s6
    have hX6 : ∀ v ∈ rG, ∃ c, v = .ref c ∧ RowX [sa, sl, LL, GV] H6 c := fun v hv => by
      obtain ⟨i, hi⟩ := List.getElem?_of_mem hv
      obtain ⟨c, r, rfl, hr', hc⟩ := hEG.at_ hi
      rw [List.getElem?_map, Option.map_eq_some_iff] at hr'
      obtain ⟨l, _, rfl⟩ := hr'
      refine ⟨c, rfl, ?_⟩
      rcases hc with hc | ⟨hn, hc⟩
      · exact .inl ⟨_, s46 _ _ hc⟩
      · exact .inr ⟨hn, _, s46 _ _ hc, rfl⟩
    refine ⟨fun σ' H' => σ' = [some (.ref a), some (.ref sa), some (.ref LL), some (.ref GV), some (.ref BF), some (.ref p), none, none, none, none, none, none, none, none, none, none] ∧ Same H6 H', ?_, ?_⟩
    · refine ⟨kG, _, rfl, GV, rfl, ⟨_, hk6.sk⟩, fun De hDe => ?_⟩
      refine lc_acc (xs := rG) (walk_k (k := kG)) (by rw [hrG]; exact Nat.le_trans h48 (by decide)) hDe (fun H' s' => (hk6.same s').sk) (fun i acc H' => Ea H' (fun H c r => H c = some (.lst r) ∧ c ≠ De) acc ((ls.map lv).take i)) (fun i acc H' e => by rw [e.1, List.length_take, List.length_map]; omega) (by rw [List.take_zero]; exact Ea.nil) (fun i x H' acc Φ Ψ hi hx sm hd he kf => ?_) fun H7 accE s7 hdE heE => ?_
      · obtain ⟨c, r, rfl, hr', hc⟩ := hEG.at_ hx
        refine ⟨rfl, ?_⟩
        dsimp only [tYes]
        rw [if_pos rfl]
        have hc' : SqL K H' c r ∨ SqT K H' c r := by
          rcases hc with hc | ⟨_, hc⟩
          · exact .inr (SqT.of (sm _ _ (s46 _ _ hc)))
          · exact .inl (SqL.of (sm _ _ (s46 _ _ hc)))
        refine ⟨_, rfl, c, _, rfl, hc', fun q hq => ?_⟩
        have sq := new_ (o := .lst r) hq
        have qB : q ≠ De := (ne_of_none hd hq).symm
        refine kf _ _ sq (sq _ _ hd) fun H5 h5 b1 b2 => ?_
        rw [take_succ' hr']
        exact Ea.push (he.imp fun c' r' z => ⟨b1 _ _ z.2 (sq _ _ z.1), z.2⟩) ⟨b1 _ _ qB upd_same, qB⟩
      rw [hrG, List.take_of_length_le (by rw [List.length_map]; exact Nat.le_refl _)] at heE
      refine ⟨_, rfl, .list (ls.map rd), .list (ls.map rd), .lst (SqL.of hdE) (rds_dp (heE.imp fun c r z => z.1)), .lst (SqL.of (s7 _ _ (s6 _ _ hdB))) (rds_dp (heB.imp fun c r z => s7 _ _ (s6 _ _ z.1))), rds_shaped ls hvd, rds_shaped ls hvd, _, rfl, ?_⟩
      rw [rds_eqv _ hvd]
      exact iteF ⟨rfl, s7⟩
    rintro _ H7 ⟨rfl, s67⟩
    have la := la.same s67
    have hk7 := hk6.same s67
    have hX7 : ∀ v ∈ rG, ∃ c, v = .ref c ∧ RowX [sa, sl, LL, GV] H7 c := fun v hv => by
      obtain ⟨c, e, z⟩ := hX6 v hv
      refine ⟨c, e, z.imp (fun ⟨xs, z⟩ => ⟨xs, s67 _ _ z⟩) fun ⟨n, ys, z, l⟩ => ⟨n, ys, s67 _ _ z, l⟩⟩
    clear hEG5 hG5 hX6 hk6 heB hdB hE4 hL4
    refine ⟨fun σ' H' => ∃ x6, σ' = [some (.ref a), some (.ref sa), some (.ref LL), some (.ref GV), some (.ref BF), some (.ref p), x6, none, none, none, none, none, none, none, none, none] ∧ LA C H' sa sl LL p refs ls n4, ?_, ?_⟩
    · refine ⟨kG, _, rfl, GV, rfl, ⟨_, hk7.sk⟩, ?_⟩
      refine for_it (walk_k (k := kG) (xs := rG)) (fun i σ' H' => ∃ x6, σ' = [some (.ref a), some (.ref sa), some (.ref LL), some (.ref GV), some (.ref BF), some (.ref p), x6, none, none, none, none, none, none, none, none, none] ∧ LA C H' sa sl LL p refs ls n4 ∧ GK kG H' GV rG ∧ ∀ v ∈ rG, ∃ c, v = .ref c ∧ RowX [sa, sl, LL, GV] H' c) ?_ ?_ ?_ ?_
      · exact ⟨_, rfl, la, hk7, hX7⟩
      · rintro i _ H' _ ⟨_, rfl, _, hk, _⟩
        exact hk.sk
      · rintro i xv _ H8 H' hi ⟨x6, rfl, la, hk, hX⟩ ⟨rfl, hx⟩
        obtain ⟨c, rfl, z⟩ := hX xv (List.mem_of_getElem? hx)
        rcases z with ⟨xs, hc⟩ | ⟨hn, ys, hc, hy⟩
        · exact ⟨_, rfl, _, _, _, _, _, rfl, .ty _, .base (.tup hc), kit_ty (b := "list") (r := false) (by decide +kernel), _, rfl, iteF ⟨_, rfl, la, hk, hX⟩⟩
        · have c1 : c ≠ sa := fun e => hn (by rw [e]; simp)
          have c2 : c ≠ sl := fun e => hn (by rw [e]; simp)
          have c3 : c ≠ LL := fun e => hn (by rw [e]; simp)
          have c4 : c ≠ GV := fun e => hn (by rw [e]; simp)
          refine ⟨_, rfl, _, _, _, _, _, rfl, .ty _, .base (.lst hc), kit_ty (b := "list") (r := true) (by decide +kernel), _, rfl, iteT ?_⟩
          refine ⟨_, rfl, c, ys, 2, 2, rfl, rfl, hc, by rw [hy]; rfl, ?_⟩
          refine ⟨_, rfl, c, ys.set 2 (.str "none"), 0, 0, rfl, rfl, upd_same, by rw [List.length_set, hy]; rfl, ?_⟩
          have y2 : (ys.set 2 (.str "none")).length = 3 := by rw [List.length_set]; exact hy
          refine ⟨_, rfl, (la.lst hc c1 c2 c3).lst upd_same c1 c2 c3, (hk.set hc c4).set upd_same c4, fun v hv => ?_⟩
          obtain ⟨c', e, z⟩ := hX v hv
          exact ⟨c', e, (z.set hc y2).set upd_same (by rw [List.length_set]; exact y2)⟩
      · rintro _ H' ⟨x6, rfl, la, _, _⟩
        exact ⟨x6, rfl, la⟩
    clear la hX7 hk7
    rintro _ H8 ⟨x6, rfl, la⟩
    -- the due rows and the text
    refine ⟨_, rfl, LL, _, rfl, .inl ⟨SqL.of la.hL, fun DU hDU => ?_⟩⟩
    have sD := new_ (o := .tup refs) hDU
    have la := la.same sD
    have hdu : (upd H8 DU (.tup refs)) DU = some (.tup refs) := upd_same
    generalize (upd H8 DU (.tup refs)) = H9 at la hdu ⊢
    have hlr : refs.length = ls.length := la.eL.1
    refine ⟨⟨_, rfl⟩, _, rfl, LL, rfl, ⟨_, SqL.of la.hL⟩, fun Dd hD => ?_⟩
    refine lc_same (xs := refs) (walk_l (K := K) (a := LL) (xs := refs)) (by rw [hlr]; exact Nat.le_trans h48 (by decide)) hD (fun H' s' => SqL.of (s' _ _ la.hL)) ((ls.map rowS).map V.str) (by simp [hlr]) (fun i x y H' Φ Ψ hx hy sm k => ?_) fun HA sA hdA => ?_
    · rw [List.getElem?_map, List.getElem?_map, Option.map_eq_some_iff] at hy
      obtain ⟨y1, hy, rfl⟩ := hy
      rw [Option.map_eq_some_iff] at hy
      obtain ⟨l, hl, rfl⟩ := hy
      obtain ⟨c, rfl, hc⟩ := la.eL.2 i x l hx hl
      have ok := gd.all48 l (List.mem_of_getElem? hl)
      have w1 := (TS.num_ok ok.1).2.1
      have w2 := (TS.num_ok ok.2.1).2.1
      have w3 := (_root_.TC.verds_ok _ ok.2.2).2
      have hsp : (" " : Str).length = 1 := by decide +kernel
      have big : ∀ {n : Nat}, n ≤ 300 → n ≤ sizeLine := fun h => Nat.le_trans h (by decide)
      have lg : ∀ {m : Nat}, m < 48 → (m : Int).natAbs.log2 < 1920 := fun {m} h => by
        rw [Int.natAbs_natCast]
        exact Nat.lt_of_le_of_lt (Nat.log2_le_self m) (by omega)
      refine ⟨c, _, rfl, SqT.of (sm _ _ hc), rfl, _, _, rfl, _, _, rfl, _, _, rfl, rfl, rfl, ?_⟩
      dsimp only [tYes]
      rw [if_pos rfl]
      have l1 : (numS l.1 ++ " ").length ≤ 3 := by rw [Str.length_append]; omega
      have l2 : (numS l.1 ++ " " ++ numS l.2.1).length ≤ 5 := by rw [Str.length_append]; omega
      have l3 : (numS l.1 ++ " " ++ numS l.2.1 ++ " ").length ≤ 6 := by rw [Str.length_append]; omega
      refine ⟨_, rfl, _, rfl, lg ok.1, numS l.1, _, rfl, rfl, big (by omega), _, rfl, _, rfl, lg ok.2.1, numS l.1 ++ " ", numS l.2.1, rfl, rfl, big (by omega), numS l.1 ++ " " ++ numS l.2.1, _, rfl, rfl, big (by omega), _, rfl, numS l.1 ++ " " ++ numS l.2.1 ++ " ", _, rfl, rfl, big (by omega), ?_⟩
      have e : numS l.1 ++ " " ++ numS l.2.1 ++ " " ++ l.2.2 = rowS l := row_sum _ _ _
      rw [e]
      exact k H' fun _ _ e => e
    refine ⟨_, Dd, ls.map rowS, rfl, rfl, .inl (SqL.of hdA), ?_, ?_⟩
    · have q := _root_.TC.rows_sum gd.all48
      have z : ("; " : Str).length = 2 := by decide +kernel
      rw [z, List.length_map]
      omega
    rw [TS.join_eq]
    have la := la.same sA
    have hdu := sA _ _ hdu
    have htl : (txt ls).length ≤ 624 := by
      have := _root_.TC.txt_len gd.all48 gd.ne
      omega
    refine ⟨fun σ' H' => σ' = [some (.ref a), some (.ref sa), some (.ref LL), some (.ref GV), some (.ref BF), some (.ref p), x6, some (.ref DU), some (.str (txt ls)), none, none, none, none, none, none, none] ∧ Same HA H', ?_, ?_⟩
    · obtain ⟨dx2, R2, refs2, hp2, hR2, hE2⟩ := id la.rs
      refine ⟨_, rfl, p, C, dx2, _, _, rfl, hp2, TC.cl, TC.nR, rsf_rows R2, _, rfl, _, _, rfl, two_ls hR2 hdu (ea_unmap hE2) la.eL h48, fun HB sB => ⟨_, rfl, iteF ?_⟩⟩
      have la := la.same sB
      refine ⟨_, rfl, p, dx2, _, rfl, sB _ _ hp2, p, ls, rfl, la.rs, gd, fun HC sC => ⟨_, rfl, _, rfl, rfl, _, rfl, ?_⟩⟩
      exact iteNo (b := !decide (V.str (txt ls) = V.str (txt ls))) (by simp) ⟨rfl, sB.trans sC⟩
    rintro _ HB ⟨rfl, sB⟩
    have la := la.same sB
    have hdu := sB _ _ hdu
    refine ⟨fun σ' H' => σ' = [some (.ref a), some (.ref sa), some (.ref LL), some (.ref GV), some (.ref BF), some (.ref p), x6, some (.ref DU), some (.str (txt ls)), none, none, none, none, none, none, none] ∧ ∃ n', n' ≤ 600 ∧ LA C H' sa sl LL p refs ls n', ?_, ?_⟩
    · refine ⟨rfl, _, rfl, txt ls, rfl, by omega, fun ls' g' e' p' HC sC hpn rs' => ?_, fun z => absurd ⟨ls, gd, rfl⟩ z⟩
      have e2 := _root_.TC.txt_inj gd.ne gd.all48 g'.ne g'.all48 e'
      subst e2
      obtain ⟨dx3, R3, refs3, hp3, hR3, hE3⟩ := id rs'
      have la := la.same sC
      refine ⟨p', C, dx3, _, _, rfl, hp3, TC.cl, TC.nR, rsf_rows R3, _, rfl, _, _, rfl, two_ls hR3 (sC _ _ hdu) (ea_unmap hE3) la.eL h48, fun HD sD => ⟨_, rfl, iteF ?_⟩⟩
      have la := la.same sD
      refine ⟨_, rfl, _, rfl, sa, sl, LL, n4, refs, ls, rfl, la.st, by omega, la.hL, La, Ll, la.eL, gd, fun n5 HE SE hn5 kE => ⟨_, rfl, iteF ⟨rfl, n5, by omega, la.kept SE kE⟩⟩⟩
    rintro _ HC ⟨rfl, n5, hn5, la⟩
    clear hdu sB sA sD
    refine ⟨fun σ' H' => ∃ n', (∃ x6 x7 x9 x10 x11 x12, σ' = [some (.ref a), some (.ref sa), some (.ref LL), some (.ref GV), some (.ref BF), some (.ref p), x6, x7, some (.str (txt ls)), x9, x10, x11, x12, none, none, none]) ∧ LA C H' sa sl LL p refs ls n', ?_, ?_⟩
    · refine ⟨3, rfl, by decide, by decide, ?_⟩
      refine for_range (n := 3) (fun i σ' H' => ∃ n', (∃ x6 x7 x9 x10 x11 x12, σ' = [some (.ref a), some (.ref sa), some (.ref LL), some (.ref GV), some (.ref BF), some (.ref p), x6, x7, some (.str (txt ls)), x9, x10, x11, x12, none, none, none]) ∧ LA C H' sa sl LL p refs ls n' ∧ n' ≤ 600 + 20 * i) ?_ ?_ ?_
      · exact ⟨n5, ⟨_, _, _, _, _, _, rfl⟩, la, by omega⟩
      · clear la
        rintro i _ H' hi ⟨n6, ⟨x6, x7, x9, x10, x11, x12, rfl⟩, la, hn6⟩
        refine ⟨_, rfl, ?_⟩
        refine ⟨fun σ' H' => ∃ n', (∃ (x11 : Option V) (t : Str), σ' = [some (.ref a), some (.ref sa), some (.ref LL), some (.ref GV), some (.ref BF), some (.ref p), x6, x7, some (.str (txt ls)), some (.int (0 + (i : Int))), some (.str t), x11, x12, none, none, none] ∧ t.length ≤ 5080) ∧ LA C H' sa sl LL p refs ls n' ∧ n' ≤ n6 + 17, ?_, ?_⟩
        · refine ⟨_, rfl, sa, sl, n6, 3, rfl, la.st, by omega, by decide, sm48 (by decide) (by decide), fun r HD r0 r1 SD kD => ⟨_, _, rfl, rfl, ?_⟩⟩
          have la := la.kept SD kD
          refine ⟨_, rfl, by omega, by omega, ?_⟩
          refine for_range (n := (1 + r).toNat) (fun j σ' H' => ∃ n', (∃ (x11 : Option V) (t : Str), σ' = [some (.ref a), some (.ref sa), some (.ref LL), some (.ref GV), some (.ref BF), some (.ref p), x6, x7, some (.str (txt ls)), some (.int (0 + (i : Int))), some (.str t), x11, x12, none, none, none] ∧ t.length + 12 ≤ 636 * 2 ^ j) ∧ LA C H' sa sl LL p refs ls n' ∧ n' ≤ n6 + 1 + 5 * j) ?_ ?_ ?_
          · exact ⟨n6 + 1, ⟨_, _, rfl, by omega⟩, la, by omega⟩
          · clear la
            rintro j _ H' hj ⟨n7, ⟨x11, t, rfl, ht⟩, la, hn7⟩
            have hj3 : j ≤ 2 := by omega
            have h4 : t.length ≤ 3900 := by
              have : j = 0 ∨ j = 1 ∨ j = 2 := by omega
              rcases this with rfl | rfl | rfl <;> omega
            refine ⟨_, rfl, _, rfl, sa, sl, n7, t, rfl, la.st, by omega, h4, fun t' n8 HE ht' SE hn8 kE => ?_⟩
            refine ⟨n8, ⟨_, t', rfl, ?_⟩, la.kept SE kE, by omega⟩
            rw [Nat.pow_succ]
            omega
          · rintro _ H' ⟨n7, ⟨x11, t, rfl, ht⟩, la, hn7⟩
            refine ⟨n7, ⟨_, t, rfl, ?_⟩, la, by omega⟩
            have h3 : (1 + r).toNat ≤ 3 := by omega
            have : (2 : Nat) ^ (1 + r).toNat ≤ 2 ^ 3 := Nat.pow_le_pow_right (by decide) h3
            omega
        clear la
        rintro _ HE ⟨n7, ⟨x11, t, rfl, ht⟩, la, hn7⟩
        refine ⟨fun σ' H' => ∃ fv, σ' = [some (.ref a), some (.ref sa), some (.ref LL), some (.ref GV), some (.ref BF), some (.ref p), x6, x7, some (.str (txt ls)), some (.int (0 + (i : Int))), some (.str t), x11, some fv, none, none, none] ∧ Same HE H' ∧ ((∃ ls' T refs', GoodL ls' ∧ t = txt ls' ∧ fv = .ref T ∧ H' T = some (.tup refs') ∧ Ea H' isLn refs' ls') ∨ (¬ IsTxt t ∧ fv = .non)), ?_, ?_⟩
        · refine ⟨rfl, _, rfl, t, rfl, by omega, fun ls' g' e' p' HF sF hn rs' => ?_, fun no HF sF => ⟨true, TX.ex, fun _ a' ha' => ⟨_, rfl, sF, .inr ⟨no, rfl⟩⟩, fun q => Bool.noConfusion q⟩⟩
          obtain ⟨dx3, R3, refs3, hp3, hR3, hE3⟩ := id rs'
          exact ⟨p', C, dx3, _, _, rfl, hp3, TC.cl, TC.nR, rsf_rows R3, _, rfl, sF, .inl ⟨ls', R3, refs3, g', e', rfl, hR3, ea_unmap hE3⟩⟩
        rintro _ HF ⟨fv, rfl, sF, hfv⟩
        have la := la.same sF
        refine ⟨_, rfl, t, rfl, by omega, fun ls' g' e' TT refs2 HG sG hTn hTT hE2 => ?_, fun no HG sG => ?_⟩
        · have la := la.same sG
          rcases hfv with ⟨ls2, T2, refs3, g2, e2, rfl, hT2, hE3⟩ | ⟨no, rfl⟩
          · have e3 := _root_.TC.txt_inj g'.ne g'.all48 g2.ne g2.all48 (e'.symm.trans e2)
            subst e3
            refine ⟨_, rfl, rfl, _, rfl, iteF (iteF ?_)⟩
            refine ⟨_, rfl, rfl, _, rfl, iteT ?_⟩
            refine ⟨_, rfl, _, rfl, _, _, rfl, two_ls (sG _ _ hT2) hTT (hE3.same sG) hE2 g'.most, fun HI sI => ⟨_, rfl, iteF ?_⟩⟩
            exact ⟨n7, ⟨_, _, _, _, _, _, rfl⟩, la.same sI, by omega⟩
          · exact absurd ⟨ls', g', e'⟩ no
        · have la := la.same sG
          rcases hfv with ⟨ls2, T2, refs3, g2, e2, rfl, hT2, hE3⟩ | ⟨_, rfl⟩
          · exact absurd ⟨ls2, g2, e2⟩ no
          · refine ⟨_, rfl, rfl, _, rfl, iteT ?_⟩
            refine ⟨_, rfl, rfl, _, rfl, iteF ?_⟩
            refine ⟨_, rfl, rfl, _, rfl, iteF ?_⟩
            exact ⟨n7, ⟨_, _, _, _, _, _, rfl⟩, la, by omega⟩
      · rintro _ H' ⟨n', hσ, la, _⟩
        exact ⟨n', hσ, la⟩
    rintro _ HD ⟨n6, ⟨x6, x7, x9, x10, x11, x12, rfl⟩, la⟩
    obtain ⟨dx2, R2, refs2, hp2, hR2, hE2⟩ := id la.rs
    refine ⟨_, rfl, p, dx2, _, rfl, hp2, p, ls, rfl, la.rs, gd, fun HE sE => ⟨_, rfl, _, rfl, rfl, ?_⟩⟩
    rw [decide_eq_true rfl]
    exact kk _
end
end PA

set_option maxHeartbeats 8000000
namespace PA
open PySem L2 RZ
theorem kit_self {K : PySem.W.Frag} {C : Addr} : PySem.W.kitOne K (.ref C) (.ref C) = some true := by
  unfold PySem.W.kitOne
  rw [if_pos (by simp)]
theorem kit_2 {K : PySem.W.Frag} {C D : Addr} (h1 : (Value.ref D == Value.ref C) = false) (h2 : PySem.W.isClsIn K C = true) (h3 : PySem.W.typeIn K (.ref C) = some (.type "type")) (h4 : PySem.W.subIn K (.ref D) (.ref C) = some false) : PySem.W.kitOne K (.ref D) (.ref C) = some false := by
  have e2 : ((PySem.W.clsIn K C).isSome && PySem.W.typeIn K (.ref C) == some (.type "type")) = true := by
    have h2' : (PySem.W.clsIn K C).isSome = true := h2
    rw [h2', h3] <;> rfl
  unfold PySem.W.kitOne
  rw [h1, if_neg (by simp)]
  show (if ((PySem.W.clsIn K C).isSome && PySem.W.typeIn K (.ref C) == some (.type "type")) = true then PySem.W.subIn K (.ref D) (.ref C) else none) = some false
  rw [if_pos e2]
  exact h4
theorem exm_2 {K : PySem.W.Frag} {S P : Addr} (h1 : PySem.W.subIn K (.ref P) (.type "BaseException") = some true) (h2 : PySem.W.isClsIn K P = true) (h3 : PySem.W.typeIn K (.ref P) = some (.type "type")) (h4 : PySem.W.subIn K (.ref S) (.ref P) = some true) :
    PySem.W.exmOne K (.ref S) (.ref P) = some true := by
  have e2 : ((PySem.W.clsIn K P).isSome && PySem.W.typeIn K (.ref P) == some (.type "type")) = true := by
    have h2' : (PySem.W.clsIn K P).isSome = true := h2
    rw [h2', h3] <;> rfl
  unfold PySem.W.exmOne
  rw [h1, if_pos (by simp)]
  show (if ((PySem.W.clsIn K P).isSome && PySem.W.typeIn K (.ref P) == some (.type "type")) = true then PySem.W.subIn K (.ref S) (.ref P) else none) = some true
  rw [if_pos e2]
  exact h4
theorem kit_cls {K : PySem.W.Frag} {C : Addr} {t : String} (h2 : PySem.W.isClsIn K C = true) (h3 : PySem.W.typeIn K (.ref C) = some (.type "type")) (h4 : PySem.W.subIn K (.type t) (.ref C) = some false) : PySem.W.kitOne K (.type t) (.ref C) = some false := by
  have e2 : ((PySem.W.clsIn K C).isSome && PySem.W.typeIn K (.ref C) == some (.type "type")) = true := by
    have h2' : (PySem.W.clsIn K C).isSome = true := h2
    rw [h2', h3] <;> rfl
  unfold PySem.W.kitOne
  rw [if_neg (by simp)]
  show (if ((PySem.W.clsIn K C).isSome && PySem.W.typeIn K (.ref C) == some (.type "type")) = true then PySem.W.subIn K (.type t) (.ref C) else none) = some false
  rw [if_pos e2]
  exact h4

theorem all_mk {l : PySem.W.OpenLaw} {w : World} {K : PySem.W.Frag} {h : Heap} {mg : Str → Option Value} {fa C gCI Fo gStr X P_ c1 DV pR gRead gisInt gbelow gisRow gcheck greadSt greadRow gdraw gstart gpick gsame ghand glines grdg gchg gflt gLaw : Addr} (X_ : K.In h) (G : h.Ns mainGlobals mg) (hfa : mg "law" = some (.ref fa))
    {ocCI kVCI dcCI pmCI cdCI ctCI : Value} {odCI anCI : Option Addr} {slCI : Array (Option Value)} {ocStr kVStr dcStr pmStr cdStr ctStr : Value} {odStr anStr : Option Addr} {slStr : Array (Option Value)} {tkM t0 t1 t2 t3 : Tok} {mV : Nat} {slV : Array (Option Value)} {restR : List Value} {ocRead kVRead dcRead pmRead cdRead ctRead : Value} {odRead anRead : Option Addr} {slRead : Array (Option Value)} {ocisInt kVisInt dcisInt pmisInt cdisInt ctisInt : Value} {odisInt anisInt : Option Addr} {slisInt : Array (Option Value)} {ocbelow kVbelow dcbelow pmbelow cdbelow ctbelow : Value} {odbelow anbelow : Option Addr} {slbelow : Array (Option Value)} {ocisRow kVisRow dcisRow pmisRow cdisRow ctisRow : Value} {odisRow anisRow : Option Addr} {slisRow : Array (Option Value)} {occheck kVcheck dccheck pmcheck cdcheck ctcheck : Value} {odcheck ancheck : Option Addr} {slcheck : Array (Option Value)} {ocreadSt kVreadSt dcreadSt pmreadSt cdreadSt ctreadSt : Value} {odreadSt anreadSt : Option Addr} {slreadSt : Array (Option Value)} {ocreadRow kVreadRow dcreadRow pmreadRow cdreadRow ctreadRow : Value} {odreadRow anreadRow : Option Addr} {slreadRow : Array (Option Value)} {ocdraw kVdraw dcdraw pmdraw cddraw ctdraw : Value} {oddraw andraw : Option Addr} {sldraw : Array (Option Value)} {ocstart kVstart dcstart pmstart cdstart ctstart : Value} {odstart anstart : Option Addr} {slstart : Array (Option Value)} {ocpick kVpick dcpick pmpick cdpick ctpick : Value} {odpick anpick : Option Addr} {slpick : Array (Option Value)} {ocsame kVsame dcsame pmsame cdsame ctsame : Value} {odsame ansame : Option Addr} {slsame : Array (Option Value)} {ochand kVhand dchand pmhand cdhand cthand : Value} {odhand anhand : Option Addr} {slhand : Array (Option Value)} {oclines kVlines dclines pmlines cdlines ctlines : Value} {odlines anlines : Option Addr} {sllines : Array (Option Value)} {ocrdg kVrdg dcrdg pmrdg cdrdg ctrdg : Value} {odrdg anrdg : Option Addr} {slrdg : Array (Option Value)} {occhg kVchg dcchg pmchg cdchg ctchg : Value} {odchg anchg : Option Addr} {slchg : Array (Option Value)} {ocflt kVflt dcflt pmflt cdflt ctflt : Value} {odflt anflt : Option Addr} {slflt : Array (Option Value)} {ocLaw kVLaw dcLaw pmLaw cdLaw ctLaw : Value} {odLaw anLaw : Option Addr} {slLaw : Array (Option Value)}
    (aC : PySem.W.nsIn K mainGlobals "Claim" = some (some (.ref C)))
    (pgC : PySem.W.plainGet K C Str.empty = true)
    (hdC : PySem.W.hasDictIn K C = true)
    (poC : PySem.W.plainOver K C = true)
    (saC : PySem.W.findIn K (.ref C) "__setattr__" = some (some (.builtin "object.__setattr__")))
    (kcC : PySem.W.keepIn K (.ref C) = true)
    (mkC : PySem.W.makesIn K C = true)
    (nCrows : PySem.W.findIn K (.ref C) "rows" = some none)
    (aCI : PySem.W.findIn K (.ref C) "__init__" = some (some (.ref gCI)))
    (lCI : K.lookup gCI = some ⟨ocCI, odCI, .func (PySem.W.fnOf "__init__" "Claim.__init__" (defArgs sInit) (defBody sInit) (defScope sInit) .none kVCI dcCI pmCI anCI cdCI ctCI), slCI⟩)
    (cCI : PySem.W.codeIn K cdCI "Claim.__init__" = true)
    (kCI : PySem.W.keepIn K (.ref gCI) = true)
    (iCI : PySem.W.isFn K (.ref gCI) = true)
    (aFo : PySem.W.nsIn K mainGlobals "Found" = some (some (.ref Fo)))
    (iCF : PySem.W.isClsIn K Fo = true)
    (tCF : PySem.W.typeIn K (.ref Fo) = some (.type "type"))
    (sLF : PySem.W.subIn K (.type "list") (.ref Fo) = some false)
    (sTF : PySem.W.subIn K (.type "tuple") (.ref Fo) = some false)
    (aStr : PySem.W.findIn K (.ref C) "__str__" = some (some (.ref gStr)))
    (lStr : K.lookup gStr = some ⟨ocStr, odStr, .func (PySem.W.fnOf "__str__" "Claim.__str__" (defArgs sStr) (defBody sStr) (defScope sStr) .none kVStr dcStr pmStr anStr cdStr ctStr), slStr⟩)
    (cStr : PySem.W.codeIn K cdStr "Claim.__str__" = true)
    (kStr : PySem.W.keepIn K (.ref gStr) = true)
    (iStr : PySem.W.isFn K (.ref gStr) = true)
    (aX : PySem.W.nsIn K mainGlobals "InvalidClaim" = some (some (.ref X)))
    (xX : PySem.W.excIn K X [.type "ValueError", .type "Exception", .type "BaseException", .type "object"] "ValueError.__new__" = true)
    (kX : PySem.W.keepIn K (.ref X) = true)
    (bX : PySem.W.subIn K (.ref X) (.type "BaseException") = some true)
    (tX : PySem.W.typeIn K (.ref X) = some (.type "type"))
    (isX : PySem.W.isClsIn K X = true)
    (aP_ : PySem.W.nsIn K mainGlobals "PairError" = some (some (.ref P_)))
    (bP_ : PySem.W.subIn K (.ref P_) (.type "BaseException") = some true)
    (tP_ : PySem.W.typeIn K (.ref P_) = some (.type "type"))
    (isP_ : PySem.W.isClsIn K P_ = true)
    (sXP_ : PySem.W.subIn K (.ref X) (.ref P_) = some true)
    (sXX : PySem.W.subIn K (.ref X) (.ref X) = some true)
    (ac1 : PySem.W.nsIn K mainGlobals "InvalidRows" = some (some (.ref c1)))
    (isc1 : PySem.W.isClsIn K c1 = true)
    (tc1 : PySem.W.typeIn K (.ref c1) = some (.type "type"))
    (neXc1 : (Value.ref X == Value.ref c1) = false)
    (sXc1 : PySem.W.subIn K (.ref X) (.ref c1) = some false)
    (e1 : PySem.W.findIn K (.ref X) "__getattribute__" = some (some (.builtin "BaseException.__getattribute__")))
    (e2 : PySem.W.findIn K (.ref X) "__getattr__" = some none)
    (e3 : PySem.W.hasDictIn K X = true)
    (e4 : PySem.W.findIn K (.ref X) "__class__" = some (some (.builtin "object.__class__")))
    (e5 : PySem.W.specialIn K (.builtin "object.__class__") "__get__" = some (some (.builtin "getset_descriptor.__get__")))
    (e6 : PySem.W.takesIn K (.builtin "object.__class__") = some true)
    (e7 : PySem.W.mroIn K X (.type "object") = some true)
    (zisinstance : PySem.W.nsIn K mainGlobals "isinstance" = some none)
    (zint : PySem.W.nsIn K mainGlobals "int" = some none)
    (zbool : PySem.W.nsIn K mainGlobals "bool" = some none)
    (zlist : PySem.W.nsIn K mainGlobals "list" = some none)
    (ztuple : PySem.W.nsIn K mainGlobals "tuple" = some none)
    (zstr : PySem.W.nsIn K mainGlobals "str" = some none)
    (zlen : PySem.W.nsIn K mainGlobals "len" = some none)
    (zall : PySem.W.nsIn K mainGlobals "all" = some none)
    (zzip : PySem.W.nsIn K mainGlobals "zip" = some none)
    (zrange : PySem.W.nsIn K mainGlobals "range" = some none)
    (zmax : PySem.W.nsIn K mainGlobals "max" = some none)
    (aMost : PySem.W.nsIn K mainGlobals "MOST_ROWS" = some (some (.int 48 tkM)))
    (aV : PySem.W.nsIn K mainGlobals "VERDICTS" = some (some (.ref DV)))
    (lV : K.lookup DV = some ⟨.type "tuple", none, .seq #[.str "none" t0, .str "last" t1, .str "other" t2, .str "free" t3] mV, slV⟩)
    (shK : PySem.W.nsIn K cStatics sharingNotToldKey = some none)
    (crd : PySem.W.readsIn K C (.type "type") = true)
    (cga : PySem.W.specialIn K (.ref C) "__getattribute__" = some (some (.builtin "type.__getattribute__")))
    (cfi : PySem.W.findCls K (.ref C) (.type "type") "read" = some (.get (.builtin "staticmethod.__get__") (.ref pR) .none (.ref C)))
    (aRead : PySem.W.recIn K pR "staticmethod" = some (.ref gRead :: restR))
    (lRead : K.lookup gRead = some ⟨ocRead, odRead, .func (PySem.W.fnOf "read" "Claim.read" (defArgs sRead) (defBody sRead) (defScope sRead) .none kVRead dcRead pmRead anRead cdRead ctRead), slRead⟩)
    (cRead : PySem.W.codeIn K cdRead "Claim.read" = true)
    (kRead : PySem.W.keepIn K (.ref gRead) = true)
    (chi : PySem.W.handedIn (.ref gRead) = true)
    (aisInt : PySem.W.nsIn K mainGlobals "is_integer" = some (some (.ref gisInt)))
    (lisInt : K.lookup gisInt = some ⟨ocisInt, odisInt, .func (PySem.W.fnOf "is_integer" "is_integer" (defArgs sIsInt) (defBody sIsInt) (defScope sIsInt) .none kVisInt dcisInt pmisInt anisInt cdisInt ctisInt), slisInt⟩)
    (cisInt : PySem.W.codeIn K cdisInt "is_integer" = true)
    (kisInt : PySem.W.keepIn K (.ref gisInt) = true)
    (abelow : PySem.W.nsIn K mainGlobals "is_below" = some (some (.ref gbelow)))
    (lbelow : K.lookup gbelow = some ⟨ocbelow, odbelow, .func (PySem.W.fnOf "is_below" "is_below" (defArgs sBelow) (defBody sBelow) (defScope sBelow) .none kVbelow dcbelow pmbelow anbelow cdbelow ctbelow), slbelow⟩)
    (cbelow : PySem.W.codeIn K cdbelow "is_below" = true)
    (kbelow : PySem.W.keepIn K (.ref gbelow) = true)
    (aisRow : PySem.W.nsIn K mainGlobals "_is_row" = some (some (.ref gisRow)))
    (lisRow : K.lookup gisRow = some ⟨ocisRow, odisRow, .func (PySem.W.fnOf "_is_row" "_is_row" (defArgs sIsRow) (defBody sIsRow) (defScope sIsRow) .none kVisRow dcisRow pmisRow anisRow cdisRow ctisRow), slisRow⟩)
    (cisRow : PySem.W.codeIn K cdisRow "_is_row" = true)
    (kisRow : PySem.W.keepIn K (.ref gisRow) = true)
    (acheck : PySem.W.nsIn K mainGlobals "_check_rows" = some (some (.ref gcheck)))
    (lcheck : K.lookup gcheck = some ⟨occheck, odcheck, .func (PySem.W.fnOf "_check_rows" "_check_rows" (defArgs sCheck) (defBody sCheck) (defScope sCheck) .none kVcheck dccheck pmcheck ancheck cdcheck ctcheck), slcheck⟩)
    (ccheck : PySem.W.codeIn K cdcheck "_check_rows" = true)
    (kcheck : PySem.W.keepIn K (.ref gcheck) = true)
    (areadSt : PySem.W.nsIn K mainGlobals "read_state" = some (some (.ref greadSt)))
    (lreadSt : K.lookup greadSt = some ⟨ocreadSt, odreadSt, .func (PySem.W.fnOf "read_state" "read_state" (defArgs sReadSt) (defBody sReadSt) (defScope sReadSt) .none kVreadSt dcreadSt pmreadSt anreadSt cdreadSt ctreadSt), slreadSt⟩)
    (creadSt : PySem.W.codeIn K cdreadSt "read_state" = true)
    (kreadSt : PySem.W.keepIn K (.ref greadSt) = true)
    (areadRow : PySem.W.nsIn K mainGlobals "_read_row" = some (some (.ref greadRow)))
    (lreadRow : K.lookup greadRow = some ⟨ocreadRow, odreadRow, .func (PySem.W.fnOf "_read_row" "_read_row" (defArgs sReadRow) (defBody sReadRow) (defScope sReadRow) .none kVreadRow dcreadRow pmreadRow anreadRow cdreadRow ctreadRow), slreadRow⟩)
    (creadRow : PySem.W.codeIn K cdreadRow "_read_row" = true)
    (kreadRow : PySem.W.keepIn K (.ref greadRow) = true)
    (adraw : PySem.W.nsIn K mainGlobals "_law_draw" = some (some (.ref gdraw)))
    (ldraw : K.lookup gdraw = some ⟨ocdraw, oddraw, .func (PySem.W.fnOf "_law_draw" "_law_draw" (defArgs sDraw) (defBody sDraw) (defScope sDraw) .none kVdraw dcdraw pmdraw andraw cddraw ctdraw), sldraw⟩)
    (cdraw : PySem.W.codeIn K cddraw "_law_draw" = true)
    (kdraw : PySem.W.keepIn K (.ref gdraw) = true)
    (astart : PySem.W.nsIn K mainGlobals "_law_start" = some (some (.ref gstart)))
    (lstart : K.lookup gstart = some ⟨ocstart, odstart, .func (PySem.W.fnOf "_law_start" "_law_start" (defArgs sStart) (defBody sStart) (defScope sStart) .none kVstart dcstart pmstart anstart cdstart ctstart), slstart⟩)
    (cstart : PySem.W.codeIn K cdstart "_law_start" = true)
    (kstart : PySem.W.keepIn K (.ref gstart) = true)
    (apick : PySem.W.nsIn K mainGlobals "_law_pick" = some (some (.ref gpick)))
    (lpick : K.lookup gpick = some ⟨ocpick, odpick, .func (PySem.W.fnOf "_law_pick" "_law_pick" (defArgs sPick) (defBody sPick) (defScope sPick) .none kVpick dcpick pmpick anpick cdpick ctpick), slpick⟩)
    (cpick : PySem.W.codeIn K cdpick "_law_pick" = true)
    (kpick : PySem.W.keepIn K (.ref gpick) = true)
    (asame : PySem.W.nsIn K mainGlobals "_law_same" = some (some (.ref gsame)))
    (lsame : K.lookup gsame = some ⟨ocsame, odsame, .func (PySem.W.fnOf "_law_same" "_law_same" (defArgs sSame) (defBody sSame) (defScope sSame) .none kVsame dcsame pmsame ansame cdsame ctsame), slsame⟩)
    (csame : PySem.W.codeIn K cdsame "_law_same" = true)
    (ksame : PySem.W.keepIn K (.ref gsame) = true)
    (ahand : PySem.W.nsIn K mainGlobals "_law_m_handed" = some (some (.ref ghand)))
    (lhand : K.lookup ghand = some ⟨ochand, odhand, .func (PySem.W.fnOf "_law_m_handed" "_law_m_handed" (defArgs sHanded) (defBody sHanded) (defScope sHanded) .none kVhand dchand pmhand anhand cdhand cthand), slhand⟩)
    (chand : PySem.W.codeIn K cdhand "_law_m_handed" = true)
    (khand : PySem.W.keepIn K (.ref ghand) = true)
    (alines : PySem.W.nsIn K mainGlobals "_law_m_claim" = some (some (.ref glines)))
    (llines : K.lookup glines = some ⟨oclines, odlines, .func (PySem.W.fnOf "_law_m_claim" "_law_m_claim" (defArgs sClaim) (defBody sClaim) (defScope sClaim) .none kVlines dclines pmlines anlines cdlines ctlines), sllines⟩)
    (clines : PySem.W.codeIn K cdlines "_law_m_claim" = true)
    (klines : PySem.W.keepIn K (.ref glines) = true)
    (ardg : PySem.W.nsIn K mainGlobals "_law_reading" = some (some (.ref grdg)))
    (lrdg : K.lookup grdg = some ⟨ocrdg, odrdg, .func (PySem.W.fnOf "_law_reading" "_law_reading" (defArgs sReading) (defBody sReading) (defScope sReading) .none kVrdg dcrdg pmrdg anrdg cdrdg ctrdg), slrdg⟩)
    (crdg : PySem.W.codeIn K cdrdg "_law_reading" = true)
    (krdg : PySem.W.keepIn K (.ref grdg) = true)
    (achg : PySem.W.nsIn K mainGlobals "_law_changed" = some (some (.ref gchg)))
    (lchg : K.lookup gchg = some ⟨occhg, odchg, .func (PySem.W.fnOf "_law_changed" "_law_changed" (defArgs sChanged) (defBody sChanged) (defScope sChanged) .none kVchg dcchg pmchg anchg cdchg ctchg), slchg⟩)
    (cchg : PySem.W.codeIn K cdchg "_law_changed" = true)
    (kchg : PySem.W.keepIn K (.ref gchg) = true)
    (aflt : PySem.W.nsIn K mainGlobals "_law_fault" = some (some (.ref gflt)))
    (lflt : K.lookup gflt = some ⟨ocflt, odflt, .func (PySem.W.fnOf "_law_fault" "_law_fault" (defArgs sFault) (defBody sFault) (defScope sFault) .none kVflt dcflt pmflt anflt cdflt ctflt), slflt⟩)
    (cflt : PySem.W.codeIn K cdflt "_law_fault" = true)
    (kflt : PySem.W.keepIn K (.ref gflt) = true)
    (aLaw : PySem.W.nsIn K mainGlobals "law" = some (some (.ref gLaw)))
    (lLaw : K.lookup gLaw = some ⟨ocLaw, odLaw, .func (PySem.W.fnOf "law" "law" (defArgs sLaw) (defBody sLaw) (defScope sLaw) .none kVLaw dcLaw pmLaw anLaw cdLaw ctLaw), slLaw⟩)
    (cLaw : PySem.W.codeIn K cdLaw "law" = true)
    (kLaw : PySem.W.keepIn K (.ref gLaw) = true) :
    ∃ fd : FuncData, (∀ (s : Shared) (v : Value), BindsTo s fd ⟨[v], []⟩ [("_law_script", v)]) ∧ ∀ base : Heap, K.In base → base.Ns mainGlobals mg → FnOk l.prog w K mg base CX0 9 fa fd ["_law_script"] (spLaw K) := by
  have e := hfa.symm.trans (PySem.W.mg_of X_ G aLaw)
  cases e
  have FCI := fun_mk (st := sInit) lCI cCI kCI
  have bCI := FCI.binds (ps := ["self", "rows"]) fun _ _ _ _ _ _ us hl => match us, hl with | [_, _], _ => rfl
  have FStr := fun_mk (st := sStr) lStr cStr kStr
  have bStr := FStr.binds (ps := ["self"]) fun _ _ _ _ _ _ us hl => match us, hl with | [_], _ => rfl
  have hdv : ∀ H, SqT K H DV (TC.verds.map V.str) := fun H => .inr ⟨_, #[.str "none" t0, .str "last" t1, .str "other" t2, .str "free" t3], mV, lV, rfl, rfl, (by show 4 ≤ sizeLine; decide), .cons ⟨t0, rfl⟩ (.cons ⟨t1, rfl⟩ (.cons ⟨t2, rfl⟩ (.cons ⟨t3, rfl⟩ .nil)))⟩
  have FRead := fun_mk (st := sRead) lRead cRead kRead
  have bRead := FRead.binds (ps := ["text"]) fun _ _ _ _ _ _ us hl => match us, hl with | [_], _ => rfl
  have FisInt := fun_mk (st := sIsInt) lisInt cisInt kisInt
  have bisInt := FisInt.binds (ps := ["value"]) fun _ _ _ _ _ _ us hl => match us, hl with | [_], _ => rfl
  have Fbelow := fun_mk (st := sBelow) lbelow cbelow kbelow
  have bbelow := Fbelow.binds (ps := ["value", "count"]) fun _ _ _ _ _ _ us hl => match us, hl with | [_, _], _ => rfl
  have FisRow := fun_mk (st := sIsRow) lisRow cisRow kisRow
  have bisRow := FisRow.binds (ps := ["row", "count"]) fun _ _ _ _ _ _ us hl => match us, hl with | [_, _], _ => rfl
  have Fcheck := fun_mk (st := sCheck) lcheck ccheck kcheck
  have bcheck := Fcheck.binds (ps := ["rows"]) fun _ _ _ _ _ _ us hl => match us, hl with | [_], _ => rfl
  have FreadSt := fun_mk (st := sReadSt) lreadSt creadSt kreadSt
  have breadSt := FreadSt.binds (ps := ["word"]) fun _ _ _ _ _ _ us hl => match us, hl with | [_], _ => rfl
  have FreadRow := fun_mk (st := sReadRow) lreadRow creadRow kreadRow
  have breadRow := FreadRow.binds (ps := ["piece"]) fun _ _ _ _ _ _ us hl => match us, hl with | [_], _ => rfl
  have Fdraw := fun_mk (st := sDraw) ldraw cdraw kdraw
  have bdraw := Fdraw.binds (ps := ["_law_stream", "_law_many"]) fun _ _ _ _ _ _ us hl => match us, hl with | [_, _], _ => rfl
  have Fstart := fun_mk (st := sStart) lstart cstart kstart
  have bstart := Fstart.binds (ps := ["_law_script"]) fun _ _ _ _ _ _ us hl => match us, hl with | [_], _ => rfl
  have Fpick := fun_mk (st := sPick) lpick cpick kpick
  have bpick := Fpick.binds (ps := ["_law_stream", "_law_some"]) fun _ _ _ _ _ _ us hl => match us, hl with | [_, _], _ => rfl
  have Fsame := fun_mk (st := sSame) lsame csame ksame
  have bsame := Fsame.binds (ps := ["_law_found", "_law_due"]) fun _ _ _ _ _ _ us hl => match us, hl with | [_, _], _ => rfl
  have Fhand := fun_mk (st := sHanded) lhand chand khand
  have bhand := Fhand.binds (ps := ["_law_stream", "_law_rows"]) fun _ _ _ _ _ _ us hl => match us, hl with | [_, _], _ => rfl
  have Flines := fun_mk (st := sClaim) llines clines klines
  have blines := Flines.binds (ps := ["_law_stream", "_law_most"]) fun _ _ _ _ _ _ us hl => match us, hl with | [_, _], _ => rfl
  have Frdg := fun_mk (st := sReading) lrdg crdg krdg
  have brdg := Frdg.binds (ps := ["_law_text"]) fun _ _ _ _ _ _ us hl => match us, hl with | [_], _ => rfl
  have Fchg := fun_mk (st := sChanged) lchg cchg kchg
  have bchg := Fchg.binds (ps := ["_law_stream", "_law_text"]) fun _ _ _ _ _ _ us hl => match us, hl with | [_, _], _ => rfl
  have Fflt := fun_mk (st := sFault) lflt cflt kflt
  have bflt := Fflt.binds (ps := ["_law_stream", "_law_lines"]) fun _ _ _ _ _ _ us hl => match us, hl with | [_, _], _ => rfl
  have PR : Prog K mg C X P_ Fo gCI gisInt gbelow gisRow gcheck gStr greadRow greadSt c1 gRead pR gdraw gstart gpick gsame ghand glines grdg gchg gflt (.type "type") (PySem.W.fnOf "__init__" "Claim.__init__" (defArgs sInit) (defBody sInit) (defScope sInit) .none kVCI dcCI pmCI anCI cdCI ctCI) (PySem.W.fnOf "is_integer" "is_integer" (defArgs sIsInt) (defBody sIsInt) (defScope sIsInt) .none kVisInt dcisInt pmisInt anisInt cdisInt ctisInt) (PySem.W.fnOf "is_below" "is_below" (defArgs sBelow) (defBody sBelow) (defScope sBelow) .none kVbelow dcbelow pmbelow anbelow cdbelow ctbelow) (PySem.W.fnOf "_is_row" "_is_row" (defArgs sIsRow) (defBody sIsRow) (defScope sIsRow) .none kVisRow dcisRow pmisRow anisRow cdisRow ctisRow) (PySem.W.fnOf "_check_rows" "_check_rows" (defArgs sCheck) (defBody sCheck) (defScope sCheck) .none kVcheck dccheck pmcheck ancheck cdcheck ctcheck) (PySem.W.fnOf "__str__" "Claim.__str__" (defArgs sStr) (defBody sStr) (defScope sStr) .none kVStr dcStr pmStr anStr cdStr ctStr) (PySem.W.fnOf "_read_row" "_read_row" (defArgs sReadRow) (defBody sReadRow) (defScope sReadRow) .none kVreadRow dcreadRow pmreadRow anreadRow cdreadRow ctreadRow) (PySem.W.fnOf "read_state" "read_state" (defArgs sReadSt) (defBody sReadSt) (defScope sReadSt) .none kVreadSt dcreadSt pmreadSt anreadSt cdreadSt ctreadSt) (PySem.W.fnOf "read" "Claim.read" (defArgs sRead) (defBody sRead) (defScope sRead) .none kVRead dcRead pmRead anRead cdRead ctRead) (PySem.W.fnOf "_law_draw" "_law_draw" (defArgs sDraw) (defBody sDraw) (defScope sDraw) .none kVdraw dcdraw pmdraw andraw cddraw ctdraw) (PySem.W.fnOf "_law_start" "_law_start" (defArgs sStart) (defBody sStart) (defScope sStart) .none kVstart dcstart pmstart anstart cdstart ctstart) (PySem.W.fnOf "_law_pick" "_law_pick" (defArgs sPick) (defBody sPick) (defScope sPick) .none kVpick dcpick pmpick anpick cdpick ctpick) (PySem.W.fnOf "_law_same" "_law_same" (defArgs sSame) (defBody sSame) (defScope sSame) .none kVsame dcsame pmsame ansame cdsame ctsame) (PySem.W.fnOf "_law_m_handed" "_law_m_handed" (defArgs sHanded) (defBody sHanded) (defScope sHanded) .none kVhand dchand pmhand anhand cdhand cthand) (PySem.W.fnOf "_law_m_claim" "_law_m_claim" (defArgs sClaim) (defBody sClaim) (defScope sClaim) .none kVlines dclines pmlines anlines cdlines ctlines) (PySem.W.fnOf "_law_reading" "_law_reading" (defArgs sReading) (defBody sReading) (defScope sReading) .none kVrdg dcrdg pmrdg anrdg cdrdg ctrdg) (PySem.W.fnOf "_law_changed" "_law_changed" (defArgs sChanged) (defBody sChanged) (defScope sChanged) .none kVchg dcchg pmchg anchg cdchg ctchg) (PySem.W.fnOf "_law_fault" "_law_fault" (defArgs sFault) (defBody sFault) (defScope sFault) .none kVflt dcflt pmflt anflt cdflt ctflt) := ⟨⟨⟨PySem.W.mg_none_of X_ G zisinstance, PySem.W.mg_none_of X_ G zint, PySem.W.mg_none_of X_ G zbool, PySem.W.mg_none_of X_ G zlist, PySem.W.mg_none_of X_ G ztuple, PySem.W.mg_none_of X_ G zstr, PySem.W.mg_none_of X_ G zlen, PySem.W.mg_none_of X_ G zall, PySem.W.mg_none_of X_ G zzip, PySem.W.mg_none_of X_ G zrange, PySem.W.mg_none_of X_ G zmax, ⟨tkM, PySem.W.mg_of X_ G aMost⟩, ⟨DV, PySem.W.mg_of X_ G aV, hdv⟩⟩, ⟨⟨pgC, hdC, poC, saC⟩, nCrows, PySem.W.mg_of X_ G aC, PySem.W.mg_of X_ G aFo, kit_cls iCF tCF sLF, kit_cls iCF tCF sTF⟩, ⟨xX, PySem.W.mg_of X_ G aX, kX, bX, tX, PySem.W.mg_of X_ G aP_, exm_2 bP_ isP_ tP_ sXP_, exm_2 bX isX tX sXX⟩, FCI, ⟨mkC, aCI, iCI, kcC⟩, bCI, ⟨FisInt, bisInt, PySem.W.mg_of X_ G aisInt⟩, ⟨Fbelow, bbelow, PySem.W.mg_of X_ G abelow⟩, ⟨FisRow, bisRow, PySem.W.mg_of X_ G aisRow⟩, ⟨Fcheck, bcheck, PySem.W.mg_of X_ G acheck⟩, FStr, bStr, ⟨aStr, iStr, kStr⟩, ⟨FreadSt, breadSt, PySem.W.mg_of X_ G areadSt⟩, ⟨FreadRow, breadRow, PySem.W.mg_of X_ G areadRow⟩⟩, ⟨⟨e1, e2, bX, e3, e4, e5, e6, e7⟩, kit_self, PySem.W.mg_of X_ G ac1, kit_2 neXc1 isc1 tc1 sXc1⟩, FRead, bRead, shK, ⟨crd, cga⟩, ⟨cfi, ⟨_, aRead⟩, chi⟩, ⟨Fdraw, bdraw, PySem.W.mg_of X_ G adraw⟩, ⟨Fstart, bstart, PySem.W.mg_of X_ G astart⟩, ⟨Fpick, bpick, PySem.W.mg_of X_ G apick⟩, ⟨Fsame, bsame, PySem.W.mg_of X_ G asame⟩, ⟨Fhand, bhand, PySem.W.mg_of X_ G ahand⟩, ⟨Flines, blines, PySem.W.mg_of X_ G alines⟩, ⟨Frdg, brdg, PySem.W.mg_of X_ G ardg⟩, ⟨Fchg, bchg, PySem.W.mg_of X_ G achg⟩, ⟨Fflt, bflt, PySem.W.mg_of X_ G aflt⟩⟩
  exact ⟨PySem.W.fnOf "law" "law" (defArgs sLaw) (defBody sLaw) (defScope sLaw) .none kVLaw dcLaw pmLaw anLaw cdLaw ctLaw, fun s v => .of_eq rfl, fun base _ _ => ok_law (fun_mk (st := sLaw) lLaw cLaw kLaw) PR⟩
theorem walk_ {l : PySem.W.OpenLaw} {q : Program} {loose : List Str} {XP : (Str → Option Value) → Heap → Prop} {YP : World → Heap → Prop} {d : DefRec} {K : Params → PySem.W.Frag} (hn : l.most = some 63) (hdf : d.params.defaults = [])
    (hY : ∀ (w : World) (h : Heap), YP w h → (K w.params).In h)
    (F : ∀ (w : World) (mg : Str → Option Value) (fa : Addr) (h : Heap), (K w.params).In h → h.Ns mainGlobals mg → mg d.name = some (.ref fa) →
      ∃ fd : FuncData, (∀ (s : Shared) (u : Value), BindsTo s fd ⟨[u], []⟩ [("_law_script", u)]) ∧ ∀ base : Heap, (K w.params).In base → base.Ns mainGlobals mg → FnOk l.prog w (K w.params) mg base CX0 9 fa fd ["_law_script"] (spLaw (K w.params))) :
    PySem.W.WalkO q loose XP YP l.row.toRowW d [] (fun f vs => PySem.call f vs) :=
  L2.walk_of (n := 63) (k := 9) (x := "_law_script") (CX := fun _ => CX0) (sp := fun w => spLaw (K w.params)) hn (by decide) hdf ⟨rfl, by decide, by decide⟩ hY F (fun _ _ a ns hl _ hS => ⟨a, ns, rfl, hS, hl, fun _ => rfl⟩) fun _ _ _ _ _ z => z
end PA

open PySem PySem.W PyProof.Rows
set_option maxRecDepth 100000 in
set_option maxHeartbeats 0 in
theorem PySem.Challenge.cw_pairahead_k23_claims_made_holds : PySem.Challenge.rw_pairahead_k23_claims_made.Holds := by
  w_on; o_law; k_head; (case hw => w_witness2)
  k_fill
  refine PA.walk_ (l := PySem.Challenge.rw_pairahead_k23_claims_made) rfl rfl (fun w h Y => PySem.W.kIn_of Y) ?F
  case F =>
    intro w mg fa h KX G hmg
    refine' PA.all_mk KX G hmg ?aC ?pgC ?hdC ?poC ?saC ?kcC ?mkC ?nCrows ?aCI ?lCI ?cCI ?kCI ?iCI ?aFo ?iCF ?tCF ?sLF ?sTF ?aStr ?lStr ?cStr ?kStr ?iStr ?aX ?xX ?kX ?bX ?tX ?isX ?aP_ ?bP_ ?tP_ ?isP_ ?sXP_ ?sXX ?ac1 ?isc1 ?tc1 ?neXc1 ?sXc1 ?e1 ?e2 ?e3 ?e4 ?e5 ?e6 ?e7 ?zisinstance ?zint ?zbool ?zlist ?ztuple ?zstr ?zlen ?zall ?zzip ?zrange ?zmax ?aMost ?aV ?lV ?shK ?crd ?cga ?cfi ?aRead ?lRead ?cRead ?kRead ?chi ?aisInt ?lisInt ?cisInt ?kisInt ?abelow ?lbelow ?cbelow ?kbelow ?aisRow ?lisRow ?cisRow ?kisRow ?acheck ?lcheck ?ccheck ?kcheck ?areadSt ?lreadSt ?creadSt ?kreadSt ?areadRow ?lreadRow ?creadRow ?kreadRow ?adraw ?ldraw ?cdraw ?kdraw ?astart ?lstart ?cstart ?kstart ?apick ?lpick ?cpick ?kpick ?asame ?lsame ?csame ?ksame ?ahand ?lhand ?chand ?khand ?alines ?llines ?clines ?klines ?ardg ?lrdg ?crdg ?krdg ?achg ?lchg ?cchg ?kchg ?aflt ?lflt ?cflt ?kflt ?aLaw ?lLaw ?cLaw ?kLaw
    (case aC => k_is)
    (case pgC => k_is)
    (case hdC => k_is)
    (case poC => k_is)
    (case saC => k_is)
    (case kcC => k_is)
    (case mkC => k_is)
    (case nCrows => k_is)
    (case aCI => k_is)
    (case lCI => k_is)
    (case cCI => k_is)
    (case kCI => k_is)
    (case iCI => k_is)
    (case aFo => k_is)
    (case iCF => k_is)
    (case tCF => k_is)
    (case sLF => k_is)
    (case sTF => k_is)
    (case aStr => k_is)
    (case lStr => k_is)
    (case cStr => k_is)
    (case kStr => k_is)
    (case iStr => k_is)
    (case aX => k_is)
    (case xX => k_exc)
    (case kX => k_is)
    (case bX => k_is)
    (case tX => k_is)
    (case isX => k_is)
    (case aP_ => k_is)
    (case bP_ => k_is)
    (case tP_ => k_is)
    (case isP_ => k_is)
    (case sXP_ => first | rfl | k_is)
    (case sXX => first | rfl | k_is)
    (case ac1 => k_is)
    (case isc1 => k_is)
    (case tc1 => k_is)
    (case neXc1 => first | rfl | decide | k_is)
    (case sXc1 => first | rfl | k_is)
    (case e1 => k_is)
    (case e2 => k_is)
    (case e3 => k_is)
    (case e4 => k_is)
    (case e5 => k_is)
    (case e6 => k_is)
    (case e7 => k_is)
    (case zisinstance => k_is)
    (case zint => k_is)
    (case zbool => k_is)
    (case zlist => k_is)
    (case ztuple => k_is)
    (case zstr => k_is)
    (case zlen => k_is)
    (case zall => k_is)
    (case zzip => k_is)
    (case zrange => k_is)
    (case zmax => k_is)
    (case aMost => k_is)
    (case aV => k_is)
    (case lV => k_is)
    (case shK => k_is)
    (case crd => k_is)
    (case cga => k_is)
    (case cfi => k_is)
    (case aRead => k_is)
    (case lRead => k_is)
    (case cRead => k_is)
    (case kRead => k_is)
    (case chi => first | rfl | decide | k_is)
    (case aisInt => k_is)
    (case lisInt => k_is)
    (case cisInt => k_is)
    (case kisInt => k_is)
    (case abelow => k_is)
    (case lbelow => k_is)
    (case cbelow => k_is)
    (case kbelow => k_is)
    (case aisRow => k_is)
    (case lisRow => k_is)
    (case cisRow => k_is)
    (case kisRow => k_is)
    (case acheck => k_is)
    (case lcheck => k_is)
    (case ccheck => k_is)
    (case kcheck => k_is)
    (case areadSt => k_is)
    (case lreadSt => k_is)
    (case creadSt => k_is)
    (case kreadSt => k_is)
    (case areadRow => k_is)
    (case lreadRow => k_is)
    (case creadRow => k_is)
    (case kreadRow => k_is)
    (case adraw => k_is)
    (case ldraw => k_is)
    (case cdraw => k_is)
    (case kdraw => k_is)
    (case astart => k_is)
    (case lstart => k_is)
    (case cstart => k_is)
    (case kstart => k_is)
    (case apick => k_is)
    (case lpick => k_is)
    (case cpick => k_is)
    (case kpick => k_is)
    (case asame => k_is)
    (case lsame => k_is)
    (case csame => k_is)
    (case ksame => k_is)
    (case ahand => k_is)
    (case lhand => k_is)
    (case chand => k_is)
    (case khand => k_is)
    (case alines => k_is)
    (case llines => k_is)
    (case clines => k_is)
    (case klines => k_is)
    (case ardg => k_is)
    (case lrdg => k_is)
    (case crdg => k_is)
    (case krdg => k_is)
    (case achg => k_is)
    (case lchg => k_is)
    (case cchg => k_is)
    (case kchg => k_is)
    (case aflt => k_is)
    (case lflt => k_is)
    (case cflt => k_is)
    (case kflt => k_is)
    (case aLaw => k_is)
    (case lLaw => k_is)
    (case cLaw => k_is)
    (case kLaw => k_is)
#print axioms PySem.Challenge.cw_pairahead_k23_claims_made_holds
